package exps

import (
	"fmt"
	"math/big"
	"slices"
	"testing"

	"planimeter/api"
	"planimeter/dyad"
	"planimeter/logs"
	"planimeter/series"
)

// halvings are how often the tests halve a number till it is tiny, and then square what they have.
const halvings = 40

// float is d by math/big, with so many bits that nothing is cut.
func float(d dyad.D) *big.Float {
	m := toBig(d.M)
	f := new(big.Float).SetPrec(uint(m.BitLen() + 64)).SetInt(m)
	if d.Neg {
		f.Neg(f)
	}
	return f.SetMantExp(f, d.E)
}

// expOf is exp d by math/big: that of a tiny part of it, squared over and over; off by less than 2^(100 - p) times itself.
func expOf(d dyad.D, p int) *big.Float {
	bare, _ := dyad.Bare(d)
	r := new(big.Float).SetPrec(uint(p)).Set(float(bare))
	r.SetMantExp(r, -halvings)
	sum, term := new(big.Float).SetPrec(uint(p)).SetInt64(1), new(big.Float).SetPrec(uint(p)).SetInt64(1)
	for k := int64(1); term.Sign() != 0 && term.MantExp(nil) > -p; k++ {
		term.Mul(term, r)
		term.Quo(term, new(big.Float).SetPrec(uint(p)).SetInt64(k))
		sum.Add(sum, term)
	}
	for range halvings {
		sum.Mul(sum, sum)
	}
	return sum
}

// slightly is f with a 2^-n part of it more, or less.
func slightly(f *big.Float, more bool, n int) *big.Float {
	part := new(big.Float).SetMantExp(f, -n)
	if !more {
		part.Neg(part)
	}
	return new(big.Float).SetPrec(f.Prec()).Add(f, part)
}

// has holds an interval against the ends that it is to have between its own.
func has(t *testing.T, what string, told series.I, least, most *big.Float, s int) {
	t.Helper()
	if float(told.Lo).Cmp(slightly(least, true, s+100)) > 0 {
		t.Errorf("%s: the lower end is too great", what)
	}
	if float(told.Hi).Cmp(slightly(most, false, s+100)) < 0 {
		t.Errorf("%s: the upper end is too small", what)
	}
}

// isBareDyad is whether d is told as dyads are.
func isBareDyad(d dyad.D) bool {
	again, err := dyad.Bare(d)
	return err == api.OK && again.Neg == d.Neg && again.E == d.E && slices.Equal(again.M, d.M)
}

func TestExp(t *testing.T) {
	for _, s := range scales() {
		l := ln2At(t, s)
		for _, i := range some(intervals(s), 1+s/300) {
			what := fmt.Sprintf("P14.2: Exp of %s at %d", text(i), s)
			told, err := Exp(i, s)
			if _, _, _, ok := l.split(i); !ok {
				refused(t, what, told, err)
				continue
			}
			if err != api.OK || !isBareDyad(told.Lo) || !isBareDyad(told.Hi) {
				t.Errorf("%s: %s, %d", what, text(told), err)
				continue
			}
			has(t, what, told, expOf(i.Lo, s+300), expOf(i.Hi, s+300), s)
		}
	}
}

// What is told is just what series.Exp tells, moved.
func TestExpOfWhatIsLeft(t *testing.T) {
	for _, s := range []int{8, 11, 64, 100, 700} {
		l := ln2At(t, s)
		for _, i := range intervals(s) {
			k, a, b, ok := l.split(i)
			if !ok {
				continue
			}
			lo, hi, _ := series.Exp(fromBig(a), fromBig(b), s)
			told, err := Exp(i, s)
			if err != api.OK || dyad.Cmp(told.Lo, dyad.D{M: lo, E: k - s}) != 0 || dyad.Cmp(told.Hi, dyad.D{M: hi, E: k - s}) != 0 {
				t.Errorf("P14.2: Exp of %s at %d: %s, %d", text(i), s, text(told), err)
			}
		}
	}
}

func TestExpOfNought(t *testing.T) {
	for _, s := range scales() {
		for _, nought := range []dyad.D{{}, {Neg: true, M: []uint64{0}, E: 1 << 40}} {
			told, err := Exp(point(nought), s)
			if err != api.OK || dyad.Cmp(told.Lo, dyad.Of(1)) > 0 || dyad.Cmp(told.Hi, dyad.Of(1)) < 0 {
				t.Errorf("P14.2: the example: Exp of 0 at %d: %s, %d", s, text(told), err)
			}
		}
	}
}

func TestKnownDigits(t *testing.T) {
	cases := []struct {
		d     dyad.D
		below string
	}{
		{dyad.Of(1), "2.7182818284590452353602874713526624977572470936999"}, {dyad.Of(-1), "0.36787944117144232159552377016146086744581113103176"},
		{dyad.Of(2), "7.3890560989306502272304274605750078131803155705518"}, {dyad.Of(10), "22026.465794806716516957900645284244366353512618556"},
		{small(1, -1), "1.6487212707001281468486507878141635716537761007101"}, {small(-1, -1), "0.60653065971263342360379953499118045344191813548718"},
	}
	for _, c := range cases {
		meant, _, err := big.ParseFloat(c.below, 10, 600, big.ToZero)
		if err != nil {
			t.Fatal(err)
		}
		for _, s := range []int{8, 20, 64, 100} {
			what := fmt.Sprintf("P14.2: Exp of %s at %d by its digits", end(c.d), s)
			told, err := Exp(point(c.d), s)
			if err != api.OK || float(told.Lo).Cmp(slightly(meant, true, 155)) > 0 || float(told.Hi).Cmp(meant) < 0 {
				t.Errorf("%s: %s, %d", what, text(told), err)
			}
		}
	}
}

// Of one point what is told isn't too wide.
func TestExpOfPointsIsNarrow(t *testing.T) {
	for _, s := range scales() {
		l := ln2At(t, s)
		for _, i := range some(points(s), 1+s/300) {
			k, _, _, ok := l.split(i)
			if !ok {
				continue
			}
			told, _ := Exp(i, s)
			wide, err := dyad.Add(told.Hi, dyad.Minus(told.Lo))
			most := dyad.Of(int64(8*s + 131 + 3*max(k, -k)*(2*s+128)))
			most.E += k - s
			if err != api.OK || dyad.Sign(wide) < 0 || dyad.Cmp(wide, most) > 0 {
				t.Errorf("P14.3: Exp of %s at %d is %s wide, not at most %s", text(i), s, end(wide), end(most))
			}
		}
	}
}

// logged are numbers whose logarithm may be split: those next to 1, to powers of two, long ones, great and tiny ones.
func logged() []dyad.D {
	list := []dyad.D{number(rolled(1, 4000), -3999), number(rolled(2, 4000), -4000), number(rolled(3, 4000), -1000), number(rolled(4, 53), 971),
		small(1, 1023), small(1, -1074), small(3, -1074), small(1, 5000), small(1, -5000), small(1, 5906), small(1, -5906), {M: []uint64{0, 6}, E: -64}}
	for m := int64(1); m < 40; m++ {
		list = append(list, small(m, 0), small(m, -4), small(m, -100))
	}
	for _, n := range []int{1, 2, 9, 53, 64, 600, 3999} {
		for _, side := range []int64{1, -1} {
			list = append(list, number(new(big.Int).Add(pow2(n), big.NewInt(side)), -n), number(new(big.Int).Add(pow2(n), big.NewInt(side)), 4-n))
		}
	}
	return list
}

func TestExpOfLog(t *testing.T) {
	for _, s := range []int{8, 10, 30, 53, 64, 100, 500, 2000, 8900} {
		met := 0
		for j, d := range logged() {
			if s > 500 && j%(s/300) != 0 {
				continue
			}
			// The scale of the logarithm may be another one than that of the power.
			for _, more := range []int{0, 1, 40, -2} {
				ln, err := logs.Log(d, max(8, s+more))
				if err != api.OK {
					t.Fatalf("no logarithm of %s: %d", end(d), err)
				}
				told, err := Exp(ln, s)
				if err != api.OK {
					continue
				}
				met++
				if dyad.Cmp(told.Lo, d) > 0 || dyad.Cmp(told.Hi, d) < 0 {
					t.Errorf("P14.3: Exp of Log of %s at %d: it isn't in %s", end(d), s, text(told))
				}
			}
		}
		if met < 20 {
			t.Errorf("the tests: at %d %d are met", s, met)
		}
	}
	// With bits enough none of them is left out.
	for _, d := range logged() {
		ln, _ := logs.Log(d, 64)
		if _, err := Exp(ln, 64); err != api.OK {
			t.Errorf("P14.3: Exp of Log of %s at 64: %d", end(d), err)
		}
	}
}

// spoil turns all bits of a list over, with what room there is behind it.
func spoil(list []uint64) {
	all := list[:cap(list)]
	for j := range all {
		all[j] ^= full
	}
}

// roomy is d with spare room behind its list, which no call may write to or hand out.
func roomy(d dyad.D) (dyad.D, []uint64) {
	all := append(slices.Clone(d.M), 77, 77)
	return dyad.D{Neg: d.Neg, M: all[:len(d.M)], E: d.E}, all
}

// What is handed in stays, whatever becomes of what is told, and no two lists of an answer share memory.
func TestWhatIsHandedInStays(t *testing.T) {
	list := append(intervals(64), noIntervals()...)
	for _, i := range list {
		lo, allLo := roomy(i.Lo)
		hi, allHi := roomy(i.Hi)
		keptLo, keptHi := slices.Clone(allLo), slices.Clone(allHi)
		for _, s := range []int{7, 64, 65} {
			_, a, b, _ := Split(series.I{Lo: lo, Hi: hi}, s)
			told, _ := Exp(series.I{Lo: lo, Hi: hi}, s)
			for _, two := range [][2][]uint64{{a, b}, {told.Lo.M, told.Hi.M}} {
				second := slices.Clone(two[1])
				spoil(two[0])
				if !slices.Equal(two[1], second) {
					t.Fatalf("R4: of %s at %d: two lists share memory", text(i), s)
				}
				spoil(two[1])
			}
			if !slices.Equal(allLo, keptLo) || !slices.Equal(allHi, keptHi) {
				t.Fatalf("R4: what was handed in is changed, or shared: %s at %d", text(i), s)
			}
		}
	}
}

// An answer doesn't hang on whether what is handed in is bare, nor on what was asked before.
func TestTheSameAgain(t *testing.T) {
	for _, s := range []int{8, 64, 300} {
		first, err := Exp(point(dyad.Of(3)), s)
		again, wrong := Exp(point(dyad.D{M: []uint64{0, 3, 0}, E: -64}), s)
		if err != api.OK || wrong != api.OK || dyad.Cmp(first.Lo, again.Lo) != 0 || dyad.Cmp(first.Hi, again.Hi) != 0 {
			t.Errorf("R6: Exp of 3 at %d: %s, then %s", s, text(first), text(again))
		}
		spoil(first.Lo.M)
		spoil(first.Hi.M)
		more, _ := Exp(point(dyad.Of(3)), s)
		if dyad.Cmp(more.Lo, again.Lo) != 0 || dyad.Cmp(more.Hi, again.Hi) != 0 {
			t.Errorf("R6: Exp of 3 at %d: %s, then %s", s, text(again), text(more))
		}
	}
}
