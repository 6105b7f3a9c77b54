package exps

import (
	"fmt"
	"math"
	"math/big"
	"slices"
	"testing"

	"planimeter/api"
	"planimeter/dyad"
	"planimeter/series"
)

const full = math.MaxUint64

// extra is how many bits more than asked for the tests reckon by math/big.
const extra = 256

// toBig is a number by math/big, which the tests hold the package against.
func toBig(a []uint64) *big.Int {
	sum := new(big.Int)
	for i := len(a) - 1; i >= 0; i-- {
		sum.Lsh(sum, 64)
		sum.Or(sum, new(big.Int).SetUint64(a[i]))
	}
	return sum
}

// fromBig is the bare list of a number of math/big.
func fromBig(n *big.Int) []uint64 {
	rest := new(big.Int).Set(n)
	low := new(big.Int)
	mask := new(big.Int).SetUint64(full)
	var list []uint64
	for rest.Sign() > 0 {
		list = append(list, low.And(rest, mask).Uint64())
		rest.Rsh(rest, 64)
	}
	return list
}

// pow2 is 2^n.
func pow2(n int) *big.Int { return new(big.Int).Lsh(big.NewInt(1), uint(n)) }

// rolled is an odd number of a fixed rule, of just so many bits.
func rolled(seed uint64, count int) *big.Int {
	state, number := seed, new(big.Int)
	for range count/64 + 1 {
		state = state*6364136223846793005 + 1442695040888963407
		number.Lsh(number, 64).Or(number, new(big.Int).SetUint64(state^state>>29))
	}
	number.Mod(number, pow2(count-1))
	return number.SetBit(number, count-1, 1).SetBit(number, 0, 1)
}

// number is m times 2^e, as it is handed in.
func number(m *big.Int, e int) dyad.D {
	return dyad.D{Neg: m.Sign() < 0, M: fromBig(new(big.Int).Abs(m)), E: e}
}

// small is m times 2^e.
func small(m int64, e int) dyad.D { return number(big.NewInt(m), e) }

// point is from d to d.
func point(d dyad.D) series.I { return series.I{Lo: d, Hi: d} }

// text is an interval, shortly.
func text(i series.I) string { return end(i.Lo) + " to " + end(i.Hi) }

func end(d dyad.D) string {
	sign := ""
	if d.Neg {
		sign = "-"
	}
	if len(d.M) > 2 {
		return fmt.Sprintf("%s(%d limbs) times 2^%d", sign, len(d.M), d.E)
	}
	return fmt.Sprintf("%s%v times 2^%d", sign, d.M, d.E)
}

// cut is d times 2^s, as a whole number from it on downwards, or from it on upwards.
func cut(d dyad.D, s int, upwards bool) *big.Int {
	m := toBig(d.M)
	if m.Sign() == 0 {
		return m
	}
	if d.Neg != upwards {
		m.Neg(m)
	}
	// Now what is asked for downwards stands as it is, and what upwards with its sign turned: both are brought down.
	if n := d.E + s; n >= 0 {
		m.Lsh(m, uint(n))
	} else {
		m.Rsh(m, uint(-n))
	}
	if upwards {
		m.Neg(m)
	}
	return m
}

// ln2 is what series.Ln2 tells at a scale: asked for once, as at great scales it takes long.
type ln2 struct {
	s    int
	c, d *big.Int
}

func ln2At(t *testing.T, s int) ln2 {
	t.Helper()
	c, d, err := series.Ln2(s)
	if err != api.OK {
		t.Fatalf("%d is no scale of the tests", s)
	}
	return ln2{s: s, c: toBig(c), d: toBig(d)}
}

// split is what Split is to tell of i at the scale of l; false where that is an error.
func (l ln2) split(i series.I) (k int, a, b *big.Int, ok bool) {
	low, high := cut(i.Lo, l.s, false), cut(i.Hi, l.s, true)
	ofLow, ofHigh := new(big.Int).Set(l.d), new(big.Int).Set(l.c)
	if low.Sign() < 0 {
		ofLow, ofHigh = ofHigh, ofLow
	}
	times := new(big.Int)
	// What is divided by a number above 0 leaves no rest below 0.
	times.DivMod(low, ofLow, new(big.Int))
	a = low.Sub(low, ofLow.Mul(ofLow, times))
	b = high.Sub(high, ofHigh.Mul(ofHigh, times))
	return int(times.Int64()), a, b, b.Cmp(pow2(l.s)) <= 0
}

// numbers are ends that may be at any scale: 0, small ones, tiny ones, long ones, great ones and some that are not bare.
func numbers() []dyad.D {
	list := []dyad.D{{}, {M: []uint64{0, 0}}, {Neg: true, M: []uint64{0}, E: math.MaxInt}, {E: math.MinInt}}
	ones := new(big.Int).Sub(pow2(20000), big.NewInt(1))
	sizes := []dyad.D{{M: []uint64{12, 0, 0}, E: -3}, {M: []uint64{0, 12}, E: -66}, {M: []uint64{2}, E: -20001}, number(pow2(70000), -70000),
		number(new(big.Int).Lsh(rolled(9, 20000), 77), -20077), number(ones, -20000), number(ones, -19999), number(ones, -19988),
		number(rolled(3, 20000), -20000), number(rolled(4, 19999), -20000), number(rolled(5, 19000), -20000), number(rolled(6, 53), -20000),
		small(1, -20000), small(3, -20000), small(1, -9000), small(1, -65), small(1, -8), small(1, -9), small(1, 11), small(4095, 0), small(8191, -1)}
	for m := int64(1); m < 30; m++ {
		sizes = append(sizes, small(m, 0), small(m, -3), small(m, -20), small(25*m, 0), small(140*m, 0))
	}
	for i := range 12 {
		count := 5 + 170*i
		sizes = append(sizes, number(rolled(uint64(i), count), -count), number(rolled(uint64(i+40), count), 10-count), number(rolled(uint64(i+80), count), 2-count))
	}
	for _, d := range sizes {
		minus := d
		minus.Neg = true
		list = append(list, d, minus)
	}
	return list
}

// around are points at s next to whole times of what series.Ln2 tells, by up to a unit and a half.
func around(s int) []series.I {
	c, d, _ := series.Ln2(s)
	var list []series.I
	for _, k := range []int64{1, 2, 3, 10, 100, 5000} {
		for _, one := range [][]uint64{c, d} {
			whole := new(big.Int).Mul(toBig(one), big.NewInt(2*k))
			for step := int64(-3); step <= 3; step++ {
				m := new(big.Int).Add(whole, big.NewInt(step))
				list = append(list, point(number(m, -s-1)), point(number(new(big.Int).Neg(m), -s-1)))
			}
		}
	}
	return list
}

// wide are intervals at s that aren't points: some units wide, up to where what is left is just 1, or a little more.
func wide(s int) []series.I {
	c, d, _ := series.Ln2(s)
	var list []series.I
	for _, k := range []int64{0, 1, 2, 7, 30, 1000, -1, -2, -3, -50, -1500} {
		ofLow, ofHigh := toBig(d), toBig(c)
		if k < 0 {
			ofLow, ofHigh = ofHigh, ofLow
		}
		low, high := ofLow.Mul(ofLow, big.NewInt(k)), ofHigh.Mul(ofHigh, big.NewInt(k))
		high.Add(high, pow2(s))
		for _, at := range []int64{0, 1, 5} {
			lo := number(new(big.Int).Add(low, big.NewInt(at)), -s)
			for step := int64(-4); step <= 4; step++ {
				hi := new(big.Int).Add(new(big.Int).Lsh(high, 9), big.NewInt(step*300))
				if dyad.Cmp(lo, number(hi, -s-9)) <= 0 {
					list = append(list, series.I{Lo: lo, Hi: number(hi, -s-9)})
				}
			}
			list = append(list, series.I{Lo: lo, Hi: number(new(big.Int).Add(low, big.NewInt(at+2)), -s)})
		}
	}
	return append(list, series.I{Lo: small(-1, -s-7), Hi: small(1, -s-7)}, series.I{Lo: small(-3, -2), Hi: dyad.D{}}, series.I{Lo: dyad.D{}, Hi: dyad.Of(1)},
		series.I{Lo: small(-1, -1), Hi: small(-1, -s-9)}, series.I{Lo: small(-1, -s-1), Hi: dyad.D{}}, series.I{Lo: small(-1, -1), Hi: small(1, -2)},
		series.I{Lo: dyad.D{}, Hi: small(1, -20000)}, series.I{Lo: small(-1, -20000), Hi: dyad.D{}}, series.I{Lo: small(-5, -20000), Hi: small(-3, -20000)})
}

// points are those that the tests ask of at s.
func points(s int) []series.I {
	list := around(s)
	for _, d := range numbers() {
		list = append(list, point(d))
	}
	return list
}

// intervals are all that the tests ask of at s.
func intervals(s int) []series.I { return append(points(s), wide(s)...) }

// some is one in so many, where all of them would take long.
func some(list []series.I, in int) []series.I {
	var kept []series.I
	for i := in / 2; i < len(list); i += in {
		kept = append(kept, list[i])
	}
	return kept
}

// scales are both ends, those around limbs, and some between them.
func scales() []int { return []int{8, 9, 12, 20, 63, 64, 65, 128, 400, 1000, 8899, 8900} }

// isBare is whether a list that was told has no leading noughts.
func isBare(a []uint64) bool { return len(a) == 0 || a[len(a)-1] != 0 }

func TestSplit(t *testing.T) {
	list := scales()
	for s := 10; s < 140; s += 3 {
		list = append(list, s)
	}
	for _, s := range list {
		fits, l := 0, ln2At(t, s)
		for _, i := range some(intervals(s), 1+s/400) {
			what := fmt.Sprintf("P14.1: Split of %s at %d", text(i), s)
			wantK, wantA, wantB, ok := l.split(i)
			k, a, b, err := Split(i, s)
			if !ok {
				refusedSplit(t, what, k, a, b, err)
				continue
			}
			fits++
			if err != api.OK || k != wantK || toBig(a).Cmp(wantA) != 0 || toBig(b).Cmp(wantB) != 0 || !isBare(a) || !isBare(b) {
				t.Errorf("%s: %d, %d limbs, %d limbs, %d, not %d", what, k, len(a), len(b), err, wantK)
			}
		}
		if fits < 20 {
			t.Errorf("the tests: at %d %d are split", s, fits)
		}
	}
}

// refusedSplit holds an answer against ErrArg and nothing else.
func refusedSplit(t *testing.T, what string, k int, a, b []uint64, err api.Errno) {
	t.Helper()
	if err != api.ErrArg || k != 0 || len(a)+len(b) != 0 {
		t.Errorf("%s: %d, %d limbs, %d limbs, %d", what, k, len(a), len(b), err)
	}
}

func TestSplitAsWritten(t *testing.T) {
	// At 8 ln 2 is between 177 and 178, of 256 that are 1.
	cases := []struct {
		i    series.I
		k    int
		a, b []uint64
	}{
		{point(dyad.Of(0)), 0, nil, nil}, {point(dyad.Of(1)), 1, []uint64{78}, []uint64{79}}, {point(dyad.Of(-1)), -2, []uint64{98}, []uint64{100}},
		{point(dyad.Of(10)), 14, []uint64{68}, []uint64{82}}, {point(small(177, -8)), 0, []uint64{177}, []uint64{177}},
		{point(small(178, -8)), 1, nil, []uint64{1}}, {point(small(-177, -8)), -1, nil, []uint64{1}}, {point(small(-178, -8)), -2, []uint64{176}, []uint64{178}},
		{point(small(1, -9)), 0, nil, []uint64{1}}, {point(small(-1, -9)), -1, []uint64{176}, []uint64{178}},
		{series.I{Lo: small(-1, -9), Hi: small(77, -8)}, -1, []uint64{176}, []uint64{255}}, {series.I{Lo: small(-1, -9), Hi: small(78, -8)}, -1, []uint64{176}, []uint64{256}},
		{series.I{Lo: dyad.D{}, Hi: dyad.Of(1)}, 0, nil, []uint64{256}}, {series.I{Lo: dyad.Of(1), Hi: small(3, -1)}, 1, []uint64{78}, []uint64{207}},
		{series.I{Lo: dyad.Of(-2), Hi: small(-3, -1)}, -3, []uint64{19}, []uint64{150}}, {series.I{Lo: small(-3, -10), Hi: small(-1, -10)}, -1, []uint64{176}, []uint64{178}},
	}
	for _, c := range cases {
		k, a, b, err := Split(c.i, 8)
		if err != api.OK || k != c.k || !slices.Equal(a, c.a) || !slices.Equal(b, c.b) {
			t.Errorf("P14.1: Split of %s at 8: %d, %v, %v, %d", text(c.i), k, a, b, err)
		}
	}
	for _, i := range []series.I{{Lo: small(-1, -9), Hi: small(79, -8)}, {Lo: small(-1, -9), Hi: small(157, -9)}, {Lo: dyad.D{}, Hi: small(257, -8)},
		{Lo: dyad.D{}, Hi: small(513, -9)}, {Lo: dyad.Of(1), Hi: dyad.Of(2)}, point(dyad.Of(4095)), point(dyad.Of(-4095))} {
		k, a, b, err := Split(i, 8)
		refusedSplit(t, fmt.Sprintf("P14.1: Split of %s at 8", text(i)), k, a, b, err)
	}
}

// noIntervals can't be split at any scale.
func noIntervals() []series.I {
	one := dyad.Of(1)
	var list []series.I
	sizes := []dyad.D{small(1, 12), dyad.Of(4096), dyad.Of(4097), small(8193, -1), dyad.Of(math.MaxInt64), number(rolled(1, 20000), -19987),
		number(rolled(1, 20001), -20000), number(rolled(2, 20001), -19990), number(rolled(3, 20010), -20000), number(rolled(1, 70000), -70000),
		number(rolled(2, 20002), -20001), small(1, -20001), small(3, -20001), small(2, -20002), small(1, -api.MaxExp), small(1, -api.MaxExp-1),
		small(1, api.MaxExp), small(1, api.MaxExp+1), small(1, 1<<31), small(1, -1<<31), small(1, math.MaxInt), small(1, math.MinInt),
		small(5, 1<<32), small(5, -1<<32), small(2, math.MaxInt), number(pow2(70000), 0)}
	for _, d := range sizes {
		minus := d
		minus.Neg = true
		list = append(list, point(d), point(minus), series.I{Lo: minus, Hi: d}, series.I{Lo: d, Hi: one}, series.I{Lo: one, Hi: d},
			series.I{Lo: minus, Hi: dyad.D{}}, series.I{Lo: dyad.D{}, Hi: d}, series.I{Lo: dyad.D{}, Hi: minus}, series.I{Lo: minus, Hi: small(-1, 0)})
	}
	// The wrong way round, be it by the least bit.
	return append(list, series.I{Lo: one, Hi: dyad.D{}}, series.I{Lo: dyad.D{}, Hi: small(-1, 0)}, series.I{Lo: one, Hi: small(-1, 0)}, series.I{Lo: small(-1, 0), Hi: small(-2, 0)},
		series.I{Lo: small(1, -20000), Hi: dyad.D{}}, series.I{Lo: dyad.D{}, Hi: small(-1, -20000)}, series.I{Lo: small(3, -20000), Hi: small(1, -20000)},
		series.I{Lo: number(rolled(7, 20000), -20000), Hi: small(1, -1)}, series.I{Lo: small(3, -70), Hi: small(5, -71)}, series.I{Lo: small(-5, -71), Hi: small(-3, -70)})
}

// noScales are those that lie just beyond, and the ends of int.
func noScales() []int {
	return []int{math.MinInt, math.MinInt + 1, -8900, -64, -8, -1, 0, 1, 7, 8901, 8902, 9000, 9001, 65536, 1 << 31, math.MaxInt - 1, math.MaxInt}
}

func TestWrong(t *testing.T) {
	for _, i := range noIntervals() {
		for _, s := range append(noScales(), 8, 9, 64, 8900) {
			refusedBoth(t, i, s)
		}
	}
	for _, i := range []series.I{{}, point(dyad.Of(1)), point(dyad.Of(-1)), {Lo: dyad.D{}, Hi: small(1, -1)}, point(number(rolled(3, 20000), -20000))} {
		for _, s := range noScales() {
			refusedBoth(t, i, s)
		}
		for _, s := range []int{8, 8900} {
			if _, err := Exp(i, s); err != api.OK {
				t.Errorf("P14.2: Exp of %s at %d: %d", text(i), s, err)
			}
		}
	}
}

// refusedBoth holds what both calls tell against ErrArg.
func refusedBoth(t *testing.T, i series.I, s int) {
	t.Helper()
	k, a, b, err := Split(i, s)
	refusedSplit(t, fmt.Sprintf("P14.1: Split of %s at %d", text(i), s), k, a, b, err)
	told, err := Exp(i, s)
	refused(t, fmt.Sprintf("P14.2: Exp of %s at %d", text(i), s), told, err)
}

func isNought(d dyad.D) bool { return !d.Neg && len(d.M) == 0 && d.E == 0 }

// refused holds an answer against ErrArg and nothing else.
func refused(t *testing.T, what string, i series.I, err api.Errno) {
	t.Helper()
	if err != api.ErrArg || !isNought(i.Lo) || !isNought(i.Hi) {
		t.Errorf("%s: %d", what, err)
	}
}

// atanhOf is atanh of 1 divided by n times 2^w, cut.
func atanhOf(n int64, w int) *big.Int {
	power, sum := new(big.Int).Quo(pow2(w), big.NewInt(n)), new(big.Int)
	for k := int64(1); power.Sign() > 0; k += 2 {
		sum.Add(sum, new(big.Int).Quo(power, big.NewInt(k)))
		power.Quo(power, big.NewInt(n*n))
	}
	return sum
}

// ln2Of is ln 2 times 2^w by three other fractions than that of the package.
func ln2Of(w int) *big.Int {
	sum := new(big.Int)
	for _, part := range [][2]int64{{18, 26}, {-2, 4801}, {8, 8749}} {
		a := atanhOf(part[1], w)
		sum.Add(sum, a.Mul(a, big.NewInt(part[0])))
	}
	return sum
}

// What is told for the lower end is at most what is left of it without k times ln 2, and what is told for the upper one
// at least that.
func TestSplitLeavesWhatIsLeft(t *testing.T) {
	for _, s := range []int{8, 20, 64, 65, 500, 8900} {
		meant, slack := ln2Of(s+extra), pow2(extra-64)
		for _, i := range some(intervals(s), 1+s/1000) {
			k, a, b, err := Split(i, s)
			if err != api.OK {
				continue
			}
			what := fmt.Sprintf("P14.1: Split of %s at %d", text(i), s)
			twos := new(big.Int).Mul(meant, big.NewInt(int64(k)))
			left := cut(i.Lo, s+extra, true)
			if left.Sub(left, twos).Add(left, slack).Cmp(new(big.Int).Lsh(toBig(a), extra)) < 0 {
				t.Errorf("%s: too much is left of the lower end", what)
			}
			left = cut(i.Hi, s+extra, false)
			if left.Sub(left, twos).Sub(left, slack).Cmp(new(big.Int).Lsh(toBig(b), extra)) > 0 {
				t.Errorf("%s: too little is left of the upper end", what)
			}
		}
	}
}
