package round

import (
	"fmt"
	"math"
	"math/big"
	"slices"
	"testing"

	"planimeter/api"
	"planimeter/dyad"
	"planimeter/float"
)

const full = math.MaxUint64

// deep is how far down all samples are whole, with room for a little more.
const deep = 1500

var directions = []api.Dir{api.Near, api.Zero, api.Up, api.Down}

// strange are directions that are none.
var strange = []api.Dir{-1, 4, 5, 256, 1 << 32, math.MaxInt, math.MinInt}

// toBig is a list as a number of math/big, which the tests hold the package against.
func toBig(a []uint64) *big.Int {
	sum := new(big.Int)
	for i := len(a) - 1; i >= 0; i-- {
		sum.Lsh(sum, 64)
		sum.Or(sum, new(big.Int).SetUint64(a[i]))
	}
	return sum
}

// fromBig is the bare list of a number of math/big.
func fromBig(n *big.Int) []uint64 {
	rest := new(big.Int).Set(n)
	low, mask := new(big.Int), new(big.Int).SetUint64(full)
	var list []uint64
	for rest.Sign() > 0 {
		list = append(list, low.And(rest, mask).Uint64())
		rest.Rsh(rest, 64)
	}
	return list
}

// sizeOf is d without its sign as a number of 2^-deep; the little more is one of those, which d must leave room for.
func sizeOf(d dyad.D, more bool) *big.Int {
	n := toBig(d.M)
	n.Lsh(n, uint(d.E+deep))
	if more {
		n.Add(n, big.NewInt(1))
	}
	return n
}

// worth is what bits without a sign are worth as a number of 2^-deep; infinity is the power behind the greatest number.
func worth(b uint64) *big.Int {
	if b == float.Inf {
		return new(big.Int).Lsh(big.NewInt(1), 1024+deep)
	}
	f := new(big.Float).SetPrec(3000).SetFloat64(math.Float64frombits(b))
	n, accuracy := f.SetMantExp(f, deep).Int(nil)
	if accuracy != big.Exact {
		panic("the test's own number isn't exact")
	}
	return n
}

// floor is the greatest bits without a sign, up to infinity, that aren't worth more than size: searched for, not reckoned.
func floor(size *big.Int) uint64 {
	low, beyond := uint64(0), float.Inf+1
	for beyond-low > 1 {
		middle := low + (beyond-low)/2
		if worth(middle).Cmp(size) <= 0 {
			low = middle
		} else {
			beyond = middle
		}
	}
	return low
}

// outward is whether a direction leads away from 0.
func outward(neg bool, dir api.Dir) bool {
	return dir == api.Up && !neg || dir == api.Down && neg
}

// nearer is whether the bits behind low are to be taken to the nearest: by both distances.
func nearer(low uint64, size *big.Int) bool {
	toLow := new(big.Int).Sub(size, worth(low))
	toHigh := new(big.Int).Sub(worth(low+1), size)
	order := toLow.Cmp(toHigh)
	return order > 0 || order == 0 && low%2 == 1
}

// wanted is what To must tell, by the neighbours between which the number lies.
func wanted(neg bool, size *big.Int, dir api.Dir) (uint64, api.Flags) {
	sign := uint64(0)
	if neg {
		sign = 1 << 63
	}
	b := floor(size)
	if b == float.Inf {
		if dir == api.Near || outward(neg, dir) {
			return sign | float.Inf, api.Overflow | api.Inexact
		}
		return sign | float.Max, api.Overflow | api.Inexact
	}
	if worth(b).Cmp(size) == 0 {
		return sign | b, 0
	}
	if outward(neg, dir) || dir == api.Near && nearer(b, size) {
		b++
	}
	flags := api.Inexact
	if size.Cmp(worth(1<<52)) < 0 {
		flags |= api.Underflow
	}
	if b == float.Inf {
		flags |= api.Overflow
	}
	return sign | b, flags
}

// one is a dyad of one limb.
func one(neg bool, m uint64, e int) dyad.D {
	return dyad.D{Neg: neg, M: []uint64{m}, E: e}
}

// short spares the reader the hundred limbs of a long list.
func short(d dyad.D) string {
	if len(d.M) > 6 {
		return fmt.Sprintf("{%v %v.. (%d limbs) %d}", d.Neg, d.M[:6], len(d.M), d.E)
	}
	return fmt.Sprint(d)
}

// told holds an answer of To against the one that was awaited.
func told(t *testing.T, d dyad.D, more bool, dir api.Dir, want uint64, wantFlags api.Flags) {
	t.Helper()
	b, flags, err := To(d, more, dir)
	if b != want || flags != wantFlags || err != api.OK {
		t.Errorf("P7.1: To of %s, %v, %d: %#x, %d, %d, not %#x, %d", short(d), more, dir, b, flags, err, want, wantFlags)
	}
}

// everywhere holds To against the search in all directions, of both signs, with more and without.
func everywhere(t *testing.T, m []uint64, e int) {
	t.Helper()
	for _, neg := range []bool{false, true} {
		for _, more := range []bool{false, true} {
			for _, dir := range directions {
				d := dyad.D{Neg: neg, M: m, E: e}
				want, flags := wanted(neg, sizeOf(d, more), dir)
				told(t, d, more, dir, want, flags)
			}
		}
	}
}

func TestExample(t *testing.T) {
	told(t, one(false, 1<<53+1, 0), false, api.Near, math.Float64bits(1<<53), api.Inexact)
}

// Numbers of a fixed rule, of many lengths, at exponents from below the least number to beyond the greatest.
func TestToOfManyNumbers(t *testing.T) {
	state := uint64(11)
	for e := -1300; e < 1100; e += 13 {
		m := make([]uint64, 1+(e+1300)%3)
		for i := range m {
			state = state*6364136223846793005 + 1442695040888963407
			m[i] = state ^ state>>29
		}
		m[len(m)-1] = m[len(m)-1]>>(state%64) | 1
		everywhere(t, append(m, 1), e-64*len(m))
		if e > -1200 {
			everywhere(t, append(m, 0, 0), e-90)
		}
	}
}

// The number itself, a quarter, the half, and three quarters of a unit behind it, with a trace on either side; the last bit even and odd.
func TestToAroundTheHalf(t *testing.T) {
	for _, low := range []uint64{1 << 52, 1<<52 + 1, 1<<53 - 2, 1<<53 - 1, 0x15555555555556, 0x15555555555557} {
		for _, unit := range []int{-1074, -1073, -500, -52, 0, 1, 900, 970, 971} {
			for _, quarter := range []uint64{0, 1, 2, 3} {
				m := low<<2 + quarter
				everywhere(t, []uint64{m}, unit-2)
				everywhere(t, []uint64{1, m}, unit-66)
				everywhere(t, []uint64{full, m - 1}, unit-66)
				everywhere(t, []uint64{0, m}, unit-66)
				everywhere(t, []uint64{1, 0, 0, m}, unit-194)
			}
		}
	}
}

// Below the normal numbers the unit stays, however few bits are left above it.
func TestToOfSubnormalNumbers(t *testing.T) {
	for _, low := range []uint64{0, 1, 2, 3, 4, 5, 6, 7, 1<<51 - 1, 1 << 51, 1<<52 - 2, 1<<52 - 1, 1 << 52, 1<<52 + 1} {
		for quarter := range uint64(4) {
			m := low<<2 + quarter
			if m == 0 {
				continue
			}
			everywhere(t, []uint64{m}, -1076)
			everywhere(t, []uint64{1, m}, -1076-64)
			everywhere(t, []uint64{full, m - 1}, -1076-64)
		}
	}
	for e := -1074; e > -1400; e -= 3 {
		everywhere(t, []uint64{1}, e)
		everywhere(t, []uint64{3}, e)
		everywhere(t, []uint64{full}, e-63)
	}
}

// Underflow is asked of the number ahead of rounding: what becomes the least normal number raises it all the same.
func TestToAtTheLeastNormalNumber(t *testing.T) {
	const both = api.Underflow | api.Inexact
	told(t, one(false, 1<<53-1, -1075), false, api.Up, 1<<52, both)
	told(t, one(false, 1<<53-1, -1075), false, api.Zero, 1<<52-1, both)
	told(t, one(true, 1<<53-1, -1075), false, api.Down, 1<<63|1<<52, both)
	told(t, one(false, 1<<52-1, -1074), false, api.Up, 1<<52-1, 0)
	told(t, one(false, 1<<52-1, -1074), true, api.Up, 1<<52, both)
	told(t, one(false, 1, -1022), true, api.Down, 1<<52, api.Inexact)
	told(t, one(false, 1, -1022), true, api.Up, 1<<52+1, api.Inexact)
	told(t, one(true, 1<<54+1, -1076), false, api.Near, 1<<63|1<<52, api.Inexact)
	told(t, one(false, 1<<55-1, -1077), false, api.Near, 1<<52, both)
}

// Overflow is asked of what it is rounded to: what stays below 2^1024 then raises inexact alone.
func TestToAtTheGreatestNumber(t *testing.T) {
	const both = api.Overflow | api.Inexact
	for _, neg := range []bool{false, true} {
		sign, outer, inner := uint64(0), api.Up, api.Down
		if neg {
			sign, outer, inner = 1<<63, api.Down, api.Up
		}
		maximum, half, above := one(neg, 1<<53-1, 971), one(neg, 1<<54-1, 970), one(neg, 1, 1024)
		for _, dir := range directions {
			told(t, maximum, false, dir, sign|float.Max, 0)
		}
		told(t, maximum, true, api.Near, sign|float.Max, api.Inexact)
		told(t, maximum, true, outer, sign|float.Inf, both)
		told(t, maximum, true, inner, sign|float.Max, api.Inexact)
		told(t, half, false, api.Near, sign|float.Inf, both)
		told(t, half, true, api.Near, sign|float.Inf, both)
		told(t, half, true, inner, sign|float.Max, api.Inexact)
		told(t, half, true, api.Zero, sign|float.Max, api.Inexact)
		told(t, one(neg, 1<<55-3, 969), true, api.Near, sign|float.Max, api.Inexact)
		for _, more := range []bool{false, true} {
			told(t, above, more, api.Near, sign|float.Inf, both)
			told(t, above, more, outer, sign|float.Inf, both)
			told(t, above, more, inner, sign|float.Max, both)
			told(t, above, more, api.Zero, sign|float.Max, both)
		}
	}
}

// far are dyads at the ends of what can be bare.
func far(neg bool) (great, small []dyad.D) {
	long := slices.Repeat([]uint64{full}, 1100)
	great = []dyad.D{one(neg, 1, 1<<30), one(neg, 2, 1<<30-1), {Neg: neg, M: long, E: 1 << 30}, {Neg: neg, M: long, E: -69000}, one(neg, full, 961), one(neg, 1, 2000)}
	small = []dyad.D{one(neg, 1, -1<<30), one(neg, 6, -1<<30-1), {Neg: neg, M: long, E: -1 << 30}, {Neg: neg, M: long, E: -72000}, one(neg, full, -1139), one(neg, 1, -1076), one(neg, 1, -5000)}
	return great, small
}

func TestToOfFarOnes(t *testing.T) {
	for _, neg := range []bool{false, true} {
		great, small := far(neg)
		for _, dir := range directions {
			for _, more := range []bool{false, true} {
				for _, d := range great {
					b, flags := overTable(neg, dir)
					told(t, d, more, dir, b, flags)
				}
				for _, d := range small {
					b, flags := underTable(neg, dir)
					told(t, d, more, dir, b, flags)
				}
			}
		}
	}
}

// Lists that aren't bare, and lists longer than any shift up takes.
func TestToOfWhatIsNotBare(t *testing.T) {
	for _, dir := range directions {
		told(t, dyad.D{M: []uint64{0, 0, 3, 0, 0}, E: -129}, false, dir, math.Float64bits(1.5), 0)
		told(t, dyad.D{Neg: true, M: append(make([]uint64, 2000), 5), E: -128000}, false, dir, math.Float64bits(-5), 0)
		told(t, one(false, 1<<63, -1137), false, dir, 1, 0)
	}
	long := append(append([]uint64{1}, make([]uint64, 1999)...), 5)
	told(t, dyad.D{M: long, E: -128000}, false, api.Up, math.Float64bits(5)+1, api.Inexact)
	told(t, dyad.D{M: long, E: -128000}, false, api.Near, math.Float64bits(5), api.Inexact)
	told(t, dyad.D{Neg: true, M: long, E: -128000}, false, api.Up, math.Float64bits(-5), api.Inexact)
	told(t, dyad.D{Neg: true, M: slices.Repeat([]uint64{full}, 2000), E: -128000}, false, api.Near, math.Float64bits(-1), api.Inexact)
	told(t, dyad.D{Neg: true, M: slices.Repeat([]uint64{full}, 2000), E: -128000}, true, api.Zero, math.Float64bits(-1)-1, api.Inexact)
}

// Numbers stay what they are, in every direction.
func TestToOfBits(t *testing.T) {
	state := uint64(3)
	for exponent := range uint64(2047) {
		state = state*6364136223846793005 + 1442695040888963407
		for _, fraction := range []uint64{0, 1, 1<<52 - 1, (state ^ state>>29) >> 12} {
			for _, sign := range []uint64{0, 1 << 63} {
				b := sign | exponent<<52 | fraction
				d, _ := float.Dyad(b)
				if b == float.Sign {
					b = 0
				}
				for _, dir := range directions {
					told(t, d, false, dir, b, 0)
				}
			}
		}
	}
}

// noughts are 0 in all the ways in which it can be handed in.
func noughts() []dyad.D {
	var list []dyad.D
	for _, m := range [][]uint64{nil, {}, {0}, make([]uint64, 200)} {
		for _, e := range []int{0, 7, -5000, 1 << 30, 1<<30 + 1, -1 << 31, math.MaxInt, math.MinInt} {
			list = append(list, dyad.D{M: m, E: e}, dyad.D{Neg: true, M: m, E: e})
		}
	}
	return list
}

// beyond are dyads that can't be bare.
func beyond() []dyad.D {
	return []dyad.D{
		one(false, 1, 1<<30+1), one(true, 2, 1<<30), one(false, 1, -1<<30-1), one(true, 2, -1<<30-2),
		one(false, 1, 1<<31), one(true, 1, -1<<31), one(false, 3, math.MaxInt), one(true, 1<<63, math.MinInt), {M: []uint64{0, 1}, E: 1<<30 - 63},
	}
}

func TestNoughts(t *testing.T) {
	for _, d := range noughts() {
		for _, dir := range directions {
			told(t, d, false, dir, 0, 0)
			refused(t, d, true, dir)
			for _, unit := range []int{0, 5, -1074, 1 << 29, -1 << 29} {
				whole(t, d, false, dir, unit, dyad.D{}, false)
				refusedWhole(t, d, true, dir, unit)
			}
			for _, unit := range []int{1<<29 + 1, -1<<29 - 1, math.MaxInt, math.MinInt} {
				refusedWhole(t, d, false, dir, unit)
			}
		}
	}
}

// refused holds an answer of To against ErrArg, beside which all is nought.
func refused(t *testing.T, d dyad.D, more bool, dir api.Dir) {
	t.Helper()
	if b, flags, err := To(d, more, dir); b != 0 || flags != 0 || err != api.ErrArg {
		t.Errorf("P7.1: To of %s, %v, %d: %#x, %d, %d, not ErrArg", short(d), more, dir, b, flags, err)
	}
}

func TestWhatCannotBeRounded(t *testing.T) {
	for _, more := range []bool{false, true} {
		for _, d := range beyond() {
			for _, dir := range append(slices.Clone(directions), strange...) {
				refused(t, d, more, dir)
				refusedWhole(t, d, more, dir, d.E)
				refusedWhole(t, d, more, dir, 0)
			}
		}
		for _, dir := range strange {
			for _, d := range append(noughts(), one(false, 1, 0), one(true, 1<<53+1, 3), one(false, 1, 1024), one(true, 1, -1080)) {
				refused(t, d, more, dir)
				refusedWhole(t, d, more, dir, 0)
				refusedWhole(t, d, more, dir, 1000)
			}
		}
	}
}

// whole holds an answer of Whole against the one that was awaited.
func whole(t *testing.T, d dyad.D, more bool, dir api.Dir, unit int, want dyad.D, wantInexact bool) {
	t.Helper()
	got, inexact, err := Whole(d, more, dir, unit)
	if err != api.OK || inexact != wantInexact || got.Neg != want.Neg || got.E != want.E || !slices.Equal(got.M, want.M) {
		t.Errorf("P7.2: Whole of %s, %v, %d, %d: %s, %v, %d, not %s, %v", short(d), more, dir, unit, short(got), inexact, err, short(want), wantInexact)
	}
}

// refusedWhole holds an answer of Whole against ErrArg, beside which all is nought.
func refusedWhole(t *testing.T, d dyad.D, more bool, dir api.Dir, unit int) {
	t.Helper()
	got, inexact, err := Whole(d, more, dir, unit)
	if err != api.ErrArg || inexact || got.Neg || got.E != 0 || len(got.M) != 0 {
		t.Errorf("P7.2: Whole of %s, %v, %d, %d: %s, %v, %d, not ErrArg", short(d), more, dir, unit, short(got), inexact, err)
	}
}

// wantedWhole is what Whole must tell, by a division with rest by math/big; at is a unit so far down that d is whole four times over.
func wantedWhole(d dyad.D, more bool, dir api.Dir, unit int) (dyad.D, bool) {
	at := min(d.E, unit) - 3
	n := toBig(d.M)
	n.Lsh(n, uint(d.E-at))
	if more {
		n.Add(n, big.NewInt(1))
	}
	step := new(big.Int).Lsh(big.NewInt(1), uint(unit-at))
	count, rest := new(big.Int).QuoRem(n, step, new(big.Int))
	inexact := rest.Sign() != 0
	order := rest.Lsh(rest, 1).Cmp(step)
	tie := order > 0 || order == 0 && count.Bit(0) == 1
	if inexact && (outward(d.Neg, dir) || dir == api.Near && tie) {
		count.Add(count, big.NewInt(1))
	}
	if count.Sign() == 0 {
		return dyad.D{}, inexact
	}
	low := count.TrailingZeroBits()
	return dyad.D{Neg: d.Neg, M: fromBig(count.Rsh(count, low)), E: unit + int(low)}, inexact
}

// roundWhole holds Whole against the division in all directions, of both signs, with more and without.
func roundWhole(t *testing.T, m []uint64, e, unit int) {
	t.Helper()
	for _, neg := range []bool{false, true} {
		for _, more := range []bool{false, true} {
			for _, dir := range directions {
				d := dyad.D{Neg: neg, M: m, E: e}
				want, inexact := wantedWhole(d, more, dir, unit)
				whole(t, d, more, dir, unit, want, inexact)
			}
		}
	}
}

func TestWhole(t *testing.T) {
	for m := uint64(1); m < 70; m++ {
		for unit := -3; unit < 9; unit++ {
			roundWhole(t, []uint64{m}, 0, unit)
			roundWhole(t, []uint64{m}, -2000, unit-2000)
		}
	}
	for _, m := range [][]uint64{{full}, {full, full}, {0, 1}, {1, 1}, {1, 0, 0, 5}, {0, 1 << 63, 0}, {full, 1<<63 - 1}, {full - 1, full, 7}, {1, 1 << 63}} {
		for _, unit := range []int{-130, -64, -63, -1, 0, 1, 2, 62, 63, 64, 65, 66, 126, 127, 128, 129, 193, 194, 195, 300} {
			roundWhole(t, m, 0, unit)
			roundWhole(t, m, 1<<29, 1<<29-max(unit, 0))
			roundWhole(t, m, -1<<29, -1<<29+max(unit, 0))
		}
	}
}

// The exponent that counts is the bare one's, 4096 away at the most.
func TestHowFarWholeReaches(t *testing.T) {
	for _, unit := range []int{0, 5000, -5000, 1 << 29, -1 << 29, 1<<29 - 1, 1 - 1<<29} {
		for _, m := range []uint64{1, 3, 8, full, 1 << 63, 12} {
			low := 0
			for m>>low&1 == 0 {
				low++
			}
			roundWhole(t, []uint64{m}, unit-4096-low, unit)
			roundWhole(t, []uint64{m}, unit+4096-low, unit)
			for _, more := range []bool{false, true} {
				for _, dir := range directions {
					refusedWhole(t, one(more, m, unit-4097-low), more, dir, unit)
					refusedWhole(t, one(more, m, unit+4097-low), more, dir, unit)
				}
			}
		}
	}
}

// Units beyond 2^29 are refused, even where d lies beside them.
func TestUnitsBeyondTheLimit(t *testing.T) {
	for _, dir := range directions {
		for _, more := range []bool{false, true} {
			for _, unit := range []int{1<<29 + 1, -1<<29 - 1, 1 << 30, -1 << 30, 1 << 31, -1 << 31, math.MaxInt, math.MinInt, math.MaxInt - 4096, math.MinInt + 4096} {
				for _, e := range []int{0, 1 << 29, -1 << 29, 1<<29 + 1, -1<<29 - 1, 1 << 30, -1 << 30, unit} {
					refusedWhole(t, one(true, 5, e), more, dir, unit)
				}
			}
			for _, unit := range []int{0, 1 << 29, -1 << 29} {
				refusedWhole(t, one(false, 5, 1<<30), more, dir, unit)
				refusedWhole(t, one(false, 5, -1<<30), more, dir, unit)
			}
		}
	}
}

// A d of more bits than a shift up takes is rounded like any other.
func TestWholeOfLongLists(t *testing.T) {
	ones := slices.Repeat([]uint64{full}, 1025)
	for _, unit := range []int{-4096, -64, -1, 0, 1, 64, 4096} {
		roundWhole(t, ones, 0, unit)
		roundWhole(t, append(slices.Clone(ones), 0, 6, 0), 0, unit)
		roundWhole(t, append(append([]uint64{1}, make([]uint64, 1500)...), 9), 0, unit)
	}
	roundWhole(t, append(make([]uint64, 1500), 9), -96000, 1)
}

// A carry through a list of 2^29 bits leads to an exponent that no dyad has; one bit less can be told.
func TestWholeWithTheLongestCarry(t *testing.T) {
	ones := slices.Repeat([]uint64{full}, 1<<23)
	whole(t, dyad.D{M: ones, E: 1 << 29}, true, api.Up, 1<<29, one(false, 1, 1<<30), true)
	got, inexact, err := Whole(dyad.D{M: append(ones, 1), E: 1 << 29}, true, api.Up, 1<<29)
	if err != api.ErrLong || inexact || got.Neg || got.E != 0 || len(got.M) != 0 {
		t.Errorf("P7.2: Whole of a carry beyond all exponents: %s, %v, %d", short(got), inexact, err)
	}
}

// overTable is what Over must tell, written out.
func overTable(neg bool, dir api.Dir) (uint64, api.Flags) {
	const both = api.Overflow | api.Inexact
	if neg {
		return []uint64{0xFFF0000000000000, 0xFFEFFFFFFFFFFFFF, 0xFFEFFFFFFFFFFFFF, 0xFFF0000000000000}[dir], both
	}
	return []uint64{0x7FF0000000000000, 0x7FEFFFFFFFFFFFFF, 0x7FF0000000000000, 0x7FEFFFFFFFFFFFFF}[dir], both
}

// underTable is what Under must tell, written out.
func underTable(neg bool, dir api.Dir) (uint64, api.Flags) {
	const both = api.Underflow | api.Inexact
	if neg {
		return []uint64{1 << 63, 1 << 63, 1 << 63, 1<<63 + 1}[dir], both
	}
	return []uint64{0, 0, 1, 0}[dir], both
}

func TestOverAndUnder(t *testing.T) {
	for _, neg := range []bool{false, true} {
		for _, dir := range directions {
			want, wantFlags := overTable(neg, dir)
			if b, flags := Over(neg, dir); b != want || flags != wantFlags {
				t.Errorf("P7.3: Over of %v, %d: %#x, %d", neg, dir, b, flags)
			}
			want, wantFlags = underTable(neg, dir)
			if b, flags := Under(neg, dir); b != want || flags != wantFlags {
				t.Errorf("P7.3: Under of %v, %d: %#x, %d", neg, dir, b, flags)
			}
		}
		// A direction that is none falls under the chapter's "else": as toward 0.
		for _, dir := range strange {
			want, wantFlags := overTable(neg, api.Zero)
			if b, flags := Over(neg, dir); b != want || flags != wantFlags {
				t.Errorf("P7.3: Over of %v, %d: %#x, %d", neg, dir, b, flags)
			}
			want, wantFlags = underTable(neg, api.Zero)
			if b, flags := Under(neg, dir); b != want || flags != wantFlags {
				t.Errorf("P7.3: Under of %v, %d: %#x, %d", neg, dir, b, flags)
			}
		}
	}
}

// rising are numbers from below 0 to above, each one at least the one ahead of it: around units, halves and ends.
func rising() []dyad.D {
	var above []dyad.D
	for _, e := range []int{-1 << 30, -2000, -1140, -1139, -1100, -64, 0, 950, 958, 959, 960, 961, 2000, 1 << 30} {
		for _, m := range []uint64{1 << 63, 1<<63 + 1, 1<<63 + 1<<10, 1<<63 + 1<<10 + 1, 1<<63 + 1<<11, 1<<63 + 3<<10, 1<<63 + 1<<12, full - 1<<10, full} {
			above = append(above, one(false, m, e-63))
		}
	}
	above = slices.DeleteFunc(above, func(d dyad.D) bool {
		_, err := dyad.Bare(d)
		return err != api.OK
	})
	slices.SortFunc(above, dyad.Cmp)
	var list []dyad.D
	for _, d := range slices.Backward(above) {
		list = append(list, dyad.Minus(d))
	}
	return append(append(list, dyad.D{}), above...)
}

// place is where bits stand among all of them, by size with sign; both noughts stand in one place.
func place(b uint64) int64 {
	if b&float.Sign != 0 {
		return -int64(b &^ float.Sign)
	}
	return int64(b)
}

func TestOrder(t *testing.T) {
	for _, dir := range directions {
		last := int64(math.MinInt64)
		for _, d := range rising() {
			b, _, err := To(d, false, dir)
			if err != api.OK || place(b) < last {
				t.Errorf("P7.4: To of %s, %d: %#x, %d is below what is told of less", short(d), dir, b, err)
			}
			last = place(b)
			if dyad.Sign(d) == 0 {
				continue
			}
			further, _, err := To(d, true, dir)
			if err != api.OK || place(further)*int64(dyad.Sign(d)) < place(b)*int64(dyad.Sign(d)) {
				t.Errorf("P7.4: To of %s and a little more, %d: %#x, %d is nearer to 0 than %#x", short(d), dir, further, err, b)
			}
			if dyad.Sign(d) > 0 {
				last = place(further)
			}
		}
	}
}

func TestMirror(t *testing.T) {
	mirror := []api.Dir{api.Near: api.Near, api.Zero: api.Zero, api.Up: api.Down, api.Down: api.Up}
	for _, d := range rising() {
		if dyad.Sign(d) == 0 {
			continue
		}
		for _, more := range []bool{false, true} {
			for dir, other := range mirror {
				b, flags, _ := To(d, more, api.Dir(dir))
				turned, turnedFlags, _ := To(dyad.Minus(d), more, other)
				if b^turned != float.Sign || flags != turnedFlags {
					t.Errorf("P7.4: To of %s, %v, %d: %#x, %d, its mirror %#x, %d", short(d), more, dir, b, flags, turned, turnedFlags)
				}
			}
		}
	}
}

// What is handed in stays, with the spare room behind its list; what Whole tells is the caller's.
func TestWhatIsHandedInStays(t *testing.T) {
	for _, m := range [][]uint64{nil, {0}, {1}, {12}, {6, 0, 0}, {0, 3}, {full, full}, {1<<53 + 1}} {
		for _, unit := range []int{-64, 0, 1, 7, 200} {
			all := append(slices.Clone(m), 77, 77)
			kept := slices.Clone(all)
			for _, dir := range directions {
				d := dyad.D{Neg: true, M: all[:len(m)]}
				To(d, len(m) > 0, dir)
				got, _, _ := Whole(d, false, dir, unit)
				for i := range got.M[:cap(got.M)] {
					got.M[:cap(got.M)][i] ^= full
				}
				if !slices.Equal(all, kept) {
					t.Fatalf("R4: what is handed in, %v at unit %d, is changed or shared", m, unit)
				}
			}
		}
	}
}
