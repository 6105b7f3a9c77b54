package exact

import (
	"fmt"
	"math"
	"math/big"
	"slices"
	"testing"

	"planimeter/api"
	"planimeter/dyad"
)

const full = math.MaxUint64

// toBig is a list as a number of math/big, which the tests hold the package against.
func toBig(a []uint64) *big.Int {
	sum := new(big.Int)
	for i := len(a) - 1; i >= 0; i-- {
		sum.Lsh(sum, 64)
		sum.Or(sum, new(big.Int).SetUint64(a[i]))
	}
	return sum
}

// fromBig is the bare list of a number of math/big.
func fromBig(n *big.Int) []uint64 {
	rest := new(big.Int).Set(n)
	low := new(big.Int)
	mask := new(big.Int).SetUint64(full)
	var list []uint64
	for rest.Sign() > 0 {
		list = append(list, low.And(rest, mask).Uint64())
		rest.Rsh(rest, 64)
	}
	return list
}

// raised is n to the power k, and a little more or less.
func raised(n uint64, k int64, more int64) *big.Int {
	power := new(big.Int).Exp(new(big.Int).SetUint64(n), big.NewInt(k), nil)
	return power.Add(power, big.NewInt(more))
}

// one is a dyad of one limb.
func one(neg bool, m uint64, e int) dyad.D {
	return dyad.D{Neg: neg, M: []uint64{m}, E: e}
}

// of is the dyad of a number of math/big.
func of(n *big.Int, e int) dyad.D {
	return dyad.D{M: fromBig(n), E: e}
}

// same holds two dyads against each other part by part.
func same(a, b dyad.D) bool {
	return a.Neg == b.Neg && a.E == b.E && slices.Equal(a.M, b.M)
}

// brief spares the reader the thousand limbs of a long list.
func brief(d dyad.D) string {
	if len(d.M) > 6 {
		return fmt.Sprintf("{%v %v.. (%d limbs) %d}", d.Neg, d.M[:6], len(d.M), d.E)
	}
	return fmt.Sprint(d)
}

// tooFar are dyads that can't be bare.
func tooFar() []dyad.D {
	return []dyad.D{
		one(false, 1, 1<<30+1), one(true, 3, 1<<30+1), one(false, 2, 1<<30), one(false, 1, -1<<30-1), one(true, 2, -1<<30-2),
		one(false, 1, 1<<31), one(false, 7, math.MaxInt), one(false, 1, math.MinInt), {M: []uint64{0, 1}, E: 1<<30 - 63},
	}
}

// exactly asks for a power that is one.
func exactly(t *testing.T, x dyad.D, q Q, want dyad.D) {
	t.Helper()
	got, is, err := Power(x, q)
	if !is || err != api.OK || !same(got, want) {
		t.Errorf("P11.2: Power of %s and %v: %s, %v, %d, awaited %s", brief(x), q, brief(got), is, err, brief(want))
	}
}

// never asks for a power that is none.
func never(t *testing.T, x dyad.D, q Q) {
	t.Helper()
	got, is, err := Power(x, q)
	if is || err != api.OK || !same(got, dyad.D{}) {
		t.Errorf("P11.2: Power of %s and %v: %s, %v, %d, awaited none", brief(x), q, brief(got), is, err)
	}
}

func TestExample(t *testing.T) {
	exactly(t, dyad.Of(9), Q{3, 2}, dyad.Of(27))
}

func TestOf(t *testing.T) {
	for _, c := range []struct {
		y    dyad.D
		want Q
	}{
		{dyad.D{}, Q{0, 1}},
		{dyad.D{Neg: true, M: []uint64{0, 0}, E: math.MinInt}, Q{0, 1}},
		{dyad.D{M: make([]uint64, 100), E: math.MaxInt}, Q{0, 1}},
		{one(false, 1, 0), Q{1, 1}},
		{one(true, 1, 0), Q{-1, 1}},
		{one(false, 1, -1), Q{1, 2}},
		{one(true, 12, -4), Q{-3, 4}},
		{one(false, 12, -1), Q{6, 1}},
		{one(false, 12, -2), Q{3, 1}},
		{one(false, 12, -3), Q{3, 2}},
		{one(false, 5, 3), Q{40, 1}},
		{one(true, 1<<53-1, -52), Q{-(1<<53 - 1), 1 << 52}},
		{one(false, 1, 61), Q{1 << 61, 1}},
		{one(false, 3, 60), Q{3 << 60, 1}},
		{one(true, 3, 60), Q{-3 << 60, 1}},
		{one(false, 1<<62-1, 0), Q{1<<62 - 1, 1}},
		{one(false, 1<<62-1, -62), Q{1<<62 - 1, 1 << 62}},
		{one(true, 1<<62-1, -62), Q{-(1<<62 - 1), 1 << 62}},
		{one(false, 1, -62), Q{1, 1 << 62}},
		{one(false, 1<<63, -125), Q{1, 1 << 62}},
		{one(false, 1<<63, -3), Q{1 << 60, 1}},
		{one(false, (1<<62-1)<<2, -2), Q{1<<62 - 1, 1}},
		{dyad.D{M: []uint64{0, 0, 6, 0}, E: -130}, Q{3, 2}},
		{dyad.D{M: []uint64{0, 1}, E: -3}, Q{1 << 61, 1}},
	} {
		if got, is := Of(c.y); !is || got != c.want {
			t.Errorf("P11.1: Of %s: %v, %v, awaited %v", brief(c.y), got, is, c.want)
		}
	}
}

func TestOfNone(t *testing.T) {
	none := append(tooFar(),
		one(false, 1, 62), one(true, 1, 62), one(false, 1, 63), one(false, 1, 64), one(false, 1, 1<<30),
		one(false, 3, 61), one(false, 3, 62), one(false, 1<<62+1, 0), one(true, 1<<62+1, -62), one(false, full, -3),
		one(false, 1, -63), one(true, 3, -64), one(false, 1<<62-1, -63), one(false, 1<<62-1, 1), one(false, 1, -1<<30),
		dyad.D{M: []uint64{1, 1}, E: -64}, dyad.D{M: []uint64{1, 1}}, dyad.D{M: []uint64{0, 1}, E: -2},
	)
	for _, y := range none {
		if got, is := Of(y); is || got != (Q{}) {
			t.Errorf("P11.1: Of %s: %v, %v, awaited none", brief(y), got, is)
		}
	}
}

func TestLow(t *testing.T) {
	numbers := []int64{0, 1, 2, 3, 4, 6, 12, 35, 1 << 31, 3 << 40, 1 << 62, 1<<62 - 1, math.MaxInt64 - 1, math.MaxInt64}
	for _, n := range slices.Clone(numbers) {
		numbers = append(numbers, -n)
	}
	numbers = append(numbers, math.MinInt64, math.MinInt64+1)
	for _, m := range numbers {
		for _, k := range numbers {
			got, err := Low(Q{m, k})
			if k < 1 {
				if err != api.ErrArg || got != (Q{}) {
					t.Errorf("P11.1: Low of %d and %d: %v, %d", m, k, got, err)
				}
				continue
			}
			ratio := big.NewRat(m, k)
			want := Q{ratio.Num().Int64(), ratio.Denom().Int64()}
			if err != api.OK || got != want {
				t.Errorf("P11.1: Low of %d and %d: %v, %d, awaited %v", m, k, got, err, want)
			}
		}
	}
}

// isBreak is whether a number above 0 is what bits are worth, or the middle of two neighbours: by math, not by next.
func isBreak(d *big.Rat) bool {
	end := new(big.Rat).SetInt(raised(2, 1024, 0))
	worth := func(f float64) *big.Rat {
		if math.IsInf(f, 1) {
			return end
		}
		return new(big.Rat).SetFloat64(f)
	}
	if d.Cmp(end) >= 0 {
		return d.Cmp(end) == 0
	}
	near, _ := d.Float64()
	for _, other := range []float64{near, math.Nextafter(near, 0), math.Nextafter(near, math.Inf(1))} {
		middle := new(big.Rat).Add(worth(near), worth(other))
		if middle.Mul(middle, big.NewRat(1, 2)).Cmp(d) == 0 {
			return true
		}
	}
	return false
}

// bigRoot is the k-th root of a number above 0 by bisection, and whether it is whole.
func bigRoot(n *big.Int, k int64) (*big.Int, bool) {
	low, high := new(big.Int), new(big.Int).Lsh(big.NewInt(1), uint(int64(n.BitLen())/k+1))
	for {
		middle := new(big.Int).Add(low, high)
		middle.Rsh(middle, 1)
		if middle.Cmp(low) == 0 {
			return low, new(big.Int).Exp(low, big.NewInt(k), nil).Cmp(n) == 0
		}
		if new(big.Int).Exp(middle, big.NewInt(k), nil).Cmp(n) > 0 {
			high = middle
		} else {
			low = middle
		}
	}
}

// awaited finds the power by another way than the package: the root of the power, over one denominator, without
// lowest terms and without taking the twos out.
func awaited(o uint64, e int64, m, k int64) (*big.Rat, bool) {
	numerator, denominator := new(big.Int).SetUint64(o), big.NewInt(1)
	if e < 0 {
		denominator.Lsh(denominator, uint(-e))
	} else {
		numerator.Lsh(numerator, uint(e))
	}
	x := new(big.Rat).SetFrac(numerator, denominator)
	if m < 0 {
		x.Inv(x)
		m = -m
	}
	upper, wholeUp := bigRoot(new(big.Int).Exp(x.Num(), big.NewInt(m), nil), k)
	lower, wholeDown := bigRoot(new(big.Int).Exp(x.Denom(), big.NewInt(m), nil), k)
	if !wholeUp || !wholeDown {
		return nil, false
	}
	power := new(big.Rat).SetFrac(upper, lower)
	return power, isBreak(power)
}

// rat is a dyad as a number of math/big.
func rat(d dyad.D) *big.Rat {
	value := new(big.Rat).SetInt(toBig(d.M))
	two := new(big.Rat).SetInt(raised(2, int64(max(d.E, -d.E)), 0))
	if d.E < 0 {
		two.Inv(two)
	}
	return value.Mul(value, two)
}

func TestPowerOrdinary(t *testing.T) {
	numbers := []uint64{1, 2, 3, 4, 5, 6, 7, 8, 9, 15, 16, 18, 25, 27, 36, 49, 64, 81, 125, 128, 225, 243, 256, 625, 729, 1000, 1296, 2401, 4096, 6561, 59049, 1<<53 + 1, 1<<54 - 1, 1<<54 + 1, full, 18446744065119617025}
	exponents := []int64{-12, -8, -6, -5, -4, -3, -2, -1, 0, 1, 2, 3, 4, 6, 7, 8, 12}
	found := 0
	for _, o := range numbers {
		for _, e := range exponents {
			for m := int64(-7); m <= 7; m++ {
				for k := int64(1); k <= 8; k++ {
					want, is := awaited(o, e, m, k)
					got, told, err := Power(one(false, o, int(e)), Q{m, k})
					if err != api.OK || told != is || is && (got.Neg || rat(got).Cmp(want) != 0) || !is && !same(got, dyad.D{}) {
						t.Fatalf("P11.2: Power of %d times 2^%d and %d/%d: %s, %v, %d, awaited %v, %v", o, e, m, k, brief(got), told, err, want, is)
					}
					if is {
						found++
					}
				}
			}
		}
	}
	if found < 2000 {
		t.Errorf("P11.2: so few powers are exact that little is tested: %d", found)
	}
}

// TestPowerBits: what has 54 bits is the last that may be; a number's root is found at its power.
func TestPowerBits(t *testing.T) {
	for _, k := range []int64{1, 2, 3, 4, 7, 16, 64, 100, 151} {
		for _, r := range []uint64{3, 5, 1<<27 - 1, 1<<53 - 1, 1<<53 + 1, 1<<54 - 3, 1<<54 - 1} {
			exactly(t, of(raised(r, k, 0), 0), Q{1, k}, one(false, r, 0))
			exactly(t, of(raised(r, k, 0), int(5*k)), Q{1, k}, one(false, r, 5))
			exactly(t, of(raised(r, k, 0), int(-9*k)), Q{1, k}, one(false, r, -9))
			never(t, of(raised(r, k, 0), 0), Q{-1, k})
			if k > 1 {
				never(t, of(raised(r, k, 2), 0), Q{1, k})
				never(t, of(raised(r, k, -2), 0), Q{1, k})
				never(t, of(raised(r, k, 0), 1), Q{1, k})
				never(t, of(raised(r, k, 0), int(-k+1)), Q{1, k})
			}
		}
		for _, r := range []uint64{1<<54 + 1, 1<<55 - 1, 1<<63 + 1, full} {
			never(t, of(raised(r, k, 0), 0), Q{1, k})
		}
	}
}

// TestPowerOdd: powers of r at the last M whose power has 54 bits, and at the next one, for each r that has one above 1.
func TestPowerOdd(t *testing.T) {
	limit := raised(2, 54, 0)
	for r := uint64(3); r < 4000; r += 2 {
		m := int64(1)
		for raised(r, m+1, 0).Cmp(limit) < 0 {
			m++
		}
		for _, k := range []int64{1, 2, 3, 5, 8, 11} {
			for _, more := range []int64{0, 1} {
				q, _ := Low(Q{m + more, k})
				x := of(raised(r, q.K, 0), 0)
				if more == 0 {
					exactly(t, x, Q{m, k}, of(raised(r, q.M, 0), 0))
				} else if q.K == k {
					never(t, x, Q{m + 1, k})
				}
			}
		}
	}
	exactly(t, one(false, 3, 0), Q{34, 1}, one(false, 16677181699666569, 0))
	for _, m := range []int64{35, 53, 54, 55, 1 << 20, 1 << 40, 1 << 61, 1 << 62, math.MaxInt64} {
		never(t, one(false, 3, 0), Q{m, 1})
		never(t, one(false, 9, 0), Q{m, 2})
		never(t, one(false, 1<<54-1, 0), Q{m, 3})
	}
}

// TestPowerTwos: powers of two reach from 2^-1075 to 2^1024, the least middle and what infinity counts as.
func TestPowerTwos(t *testing.T) {
	for _, c := range []struct {
		e    int
		q    Q
		want int
	}{
		{1, Q{1024, 1}, 1024}, {1, Q{-1075, 1}, -1075}, {-1, Q{1075, 1}, -1075}, {-1, Q{-1024, 1}, 1024},
		{1000, Q{-1, 8}, -125}, {1000, Q{1, 1000}, 1}, {1024, Q{1, 1}, 1024}, {-1075, Q{1, 1}, -1075}, {1075, Q{-1, 1}, -1075},
		{1 << 30, Q{1, 1 << 30}, 1}, {1 << 30, Q{-1, 1 << 30}, -1}, {1 << 30, Q{1, 1 << 20}, 1024}, {1 << 30, Q{-1075, 1 << 30}, -1075},
		{-1 << 30, Q{1075, 1 << 30}, -1075}, {-1 << 30, Q{-1, 1 << 20}, 1024}, {-1 << 30, Q{-1023, 1 << 30}, 1023},
		{1 << 29, Q{3 << 33, 3 << 61}, 2}, {7, Q{-153, 1}, -1071}, {7, Q{146, 1}, 1022}, {6, Q{341, 2}, 1023}, {6, Q{-358, 2}, -1074},
	} {
		exactly(t, one(false, 1, c.e), c.q, one(false, 1, c.want))
	}
	for _, c := range []struct {
		e int
		q Q
	}{
		{1, Q{1025, 1}}, {1, Q{-1076, 1}}, {-1, Q{1076, 1}}, {-1, Q{-1025, 1}}, {1025, Q{1, 1}}, {-1076, Q{1, 1}}, {1076, Q{-1, 1}},
		{-1, Q{1025, 2}}, {1, Q{1, 2}}, {-1, Q{1, 2}}, {3, Q{1, 2}}, {4, Q{1, 3}}, {-4, Q{1, 8}}, {4, Q{2, 3}}, {7, Q{-154, 1}}, {7, Q{147, 1}},
		{1 << 30, Q{1, 1}}, {-1 << 30, Q{1, 1}}, {1 << 30, Q{1, 1 << 31}}, {1 << 30, Q{1, 1 << 62}}, {1 << 30, Q{1, 1 << 19}}, {1 << 30, Q{-1, 1 << 19}}, {1 << 30, Q{1, 3}},
		{1, Q{math.MaxInt64, 1}}, {1, Q{math.MinInt64, 1}}, {-1, Q{math.MinInt64, 1}}, {1 << 30, Q{math.MinInt64, 1}}, {1 << 30, Q{1 << 34, 1}}, {1 << 30, Q{1 << 62, 1}},
		{1 << 30, Q{1<<34 + 1, 1 << 30}}, {1 << 30, Q{1<<62 - 1, 1 << 30}}, {2, Q{1 << 62, 1}}, {2, Q{1 << 61, 1}}, {4, Q{-1 << 62, 1}}, {-1 << 30, Q{math.MaxInt64, 1 << 30}},
		{2, Q{1, math.MaxInt64}}, {1 << 30, Q{math.MaxInt64, math.MaxInt64 - 1}},
	} {
		never(t, one(false, 1, c.e), c.q)
	}
}

// TestPowerEnds: numbers with bits of their own at the ends of what is a breakpoint.
func TestPowerEnds(t *testing.T) {
	exactly(t, one(false, 9, -2150), Q{1, 2}, one(false, 3, -1075))
	never(t, one(false, 9, -2152), Q{1, 2})
	exactly(t, of(raised(1<<53-1, 2, 0), 2*971), Q{1, 2}, one(false, 1<<53-1, 971))
	exactly(t, of(raised(1<<54-1, 2, 0), 2*970), Q{1, 2}, one(false, 1<<54-1, 970))
	never(t, of(raised(1<<54-1, 2, 0), 2*971), Q{1, 2})
	never(t, of(raised(1<<53-1, 2, 0), 2*972), Q{1, 2})
	never(t, one(false, 9, 2*1023), Q{1, 2})
	never(t, one(false, 9, 2*1024), Q{1, 2})
	exactly(t, one(false, 9, 2*1022), Q{1, 2}, one(false, 3, 1022))
	exactly(t, one(false, 27, -3*358), Q{2, 3}, one(false, 9, -716))
	exactly(t, one(false, 25, 1<<30), Q{0, 9}, dyad.Of(1))
	never(t, one(false, 25, 1<<30), Q{1, 2})
	never(t, one(false, 25, -1<<30), Q{1, 2})
	never(t, one(false, 25, -1<<30), Q{math.MaxInt64, 2})
	// Subnormal ones have fewer bits: what is one with 54 bits further up isn't there.
	exactly(t, of(raised(1<<54-1, 2, 0), -2*1075), Q{1, 2}, one(false, 1<<54-1, -1075))
	never(t, of(raised(1<<54-1, 2, 0), -2*1076), Q{1, 2})
}

// TestPowerNought: to the power 0 each number is 1.
func TestPowerNought(t *testing.T) {
	for _, x := range []dyad.D{one(false, 1, 0), one(false, 7, 5), one(false, full, -1<<30), one(false, 1, 1<<30), {M: slices.Repeat([]uint64{full}, 5000)}} {
		for _, k := range []int64{1, 2, 9, 1 << 40, 1 << 62, math.MaxInt64} {
			exactly(t, x, Q{0, k}, dyad.Of(1))
		}
	}
	for _, m := range []int64{math.MinInt64, math.MinInt64 + 1, -1, 1, 7, 1 << 62, math.MaxInt64} {
		for _, k := range []int64{1, 2, 3, 1 << 62, math.MaxInt64} {
			exactly(t, dyad.Of(1), Q{m, k}, dyad.Of(1))
			exactly(t, dyad.D{M: []uint64{0, 1}, E: -64}, Q{m, k}, dyad.Of(1))
		}
	}
}

// TestPowerLong: roots of numbers that are longer than those of which root.Root finds them.
func TestPowerLong(t *testing.T) {
	for _, c := range []struct {
		r uint64
		k int64
	}{
		{3, 5168}, {3, 5169}, {3, 5170}, {3, 6000}, {3, 8192}, {3, 40000}, {3, 41351}, {3, 65536}, {5, 3528}, {5, 3529}, {7, 1 << 14}, {21, 10007},
		{1<<27 - 1, 999}, {1<<32 + 1, 400}, {1<<53 + 1, 155}, {1<<54 - 1, 151}, {1<<54 - 1, 152}, {1<<54 - 1, 1024}, {1<<54 - 1, 2001}, {1<<54 - 3, 2001}, {1<<54 - 33, 1600},
	} {
		power := raised(c.r, c.k, 0)
		exactly(t, of(power, 0), Q{1, c.k}, one(false, c.r, 0))
		exactly(t, of(power, int(-3*c.k)), Q{7, 7 * c.k}, one(false, c.r, -3))
		never(t, of(power, 1), Q{1, c.k})
		never(t, of(power, 0), Q{-1, c.k})
		never(t, of(power, 0), Q{1, c.k - 1})
		never(t, of(power, 0), Q{1, c.k + 1})
		for _, more := range []*big.Int{big.NewInt(2), big.NewInt(-2), raised(2, 64, 0), raised(2, 4000, 0), raised(2, int64(power.BitLen())-2, 0)} {
			never(t, of(new(big.Int).Add(power, more), 0), Q{1, c.k})
		}
		other := raised(c.r, c.k-1, 0)
		never(t, of(other.Mul(other, new(big.Int).SetUint64(c.r+2)), 0), Q{1, c.k})
	}
	three := of(raised(3, 6001, 0), 0)
	exactly(t, three, Q{34, 6001}, one(false, 16677181699666569, 0))
	exactly(t, three, Q{2, 6001}, one(false, 9, 0))
	never(t, three, Q{35, 6001})
	never(t, of(raised(1<<54+1, 300, 0), 0), Q{1, 300})
	never(t, of(raised(1<<54+1, 3000, 0), 0), Q{1, 3000})
	// Nothing but 1 may be left, and nothing may be missing: these share the root's divisors.
	never(t, of(raised(9, 5000, 0), 0), Q{1, 5001})
	never(t, of(raised(9, 5000, 0), 0), Q{1, 9999})
	exactly(t, of(raised(9, 5000, 0), 0), Q{1, 10000}, dyad.Of(3))
}

// TestRootsAgree: where both ways to a root can be gone, they tell the same.
func TestRootsAgree(t *testing.T) {
	for k := int64(1); k < 40; k++ {
		for r := uint64(3); r < 1<<54; r = r*3 + 2 {
			for more := int64(-4); more <= 4; more += 2 {
				n := raised(r, k, more)
				if n.Sign() <= 0 || !counts(n.BitLen(), Q{1, k}) {
					continue
				}
				want, is := bigRoot(n, k)
				got, told := long(fromBig(n), int(k))
				if told != is || is && toBig(got).Cmp(want) != 0 {
					t.Fatalf("P11.2: the root of %v and %d: %v, %v, awaited %v, %v", n, k, got, told, want, is)
				}
			}
		}
	}
}

// TestPowerHuge: what can't be is told at once, however long the number is.
func TestPowerHuge(t *testing.T) {
	x := dyad.D{M: slices.Repeat([]uint64{full}, 1<<20)}
	for _, k := range []int64{1, 2, 1000, 1 << 20, 1 << 21, 3 << 20, 1<<26 - 1, 1 << 26, 1<<26 + 1, 1 << 62, math.MaxInt64} {
		for _, m := range []int64{math.MinInt64, -1, 1, 53, math.MaxInt64} {
			if q, _ := Low(Q{m, k}); q.K > 1 || q.M != 0 {
				never(t, x, Q{m, k})
			}
		}
	}
}

func TestPowerWrong(t *testing.T) {
	wrong := append(tooFar(), dyad.D{}, dyad.D{M: []uint64{0, 0}, E: 9}, dyad.Of(-1), one(true, 9, 0), one(true, 1, 1<<30), dyad.D{Neg: true, M: []uint64{0, 4}, E: -64})
	for _, x := range wrong {
		for _, q := range []Q{{1, 1}, {0, 1}, {1, 2}, {2, 1}, {0, 0}, {1, 0}, {math.MinInt64, math.MaxInt64}} {
			if got, is, err := Power(x, q); is || err != api.ErrArg || !same(got, dyad.D{}) {
				t.Errorf("P11.2: Power of %s and %v: %s, %v, %d", brief(x), q, brief(got), is, err)
			}
		}
	}
	for _, k := range []int64{0, -1, -2, math.MinInt64} {
		for _, m := range []int64{0, 1, -1, math.MaxInt64, math.MinInt64} {
			for _, x := range []dyad.D{dyad.Of(1), dyad.Of(9), one(false, 1, 1<<30)} {
				if got, is, err := Power(x, Q{m, k}); is || err != api.ErrArg || !same(got, dyad.D{}) {
					t.Errorf("P11.2: Power of %s and %d/%d: %s, %v, %d", brief(x), m, k, brief(got), is, err)
				}
			}
		}
	}
}

// TestPowerTerms: x needn't be bare, and the exponent needn't be in lowest terms.
func TestPowerTerms(t *testing.T) {
	for _, times := range []int64{1, 2, 3, 8, 35, 1 << 40, 1 << 60} {
		exactly(t, dyad.Of(9), Q{3 * times, 2 * times}, dyad.Of(27))
		exactly(t, dyad.D{M: []uint64{0, 36, 0}, E: -64}, Q{3 * times, 2 * times}, dyad.Of(216))
		exactly(t, one(false, 1, 8), Q{-5 * times, 4 * times}, one(false, 1, -10))
		never(t, dyad.Of(8), Q{3 * times, 2 * times})
		never(t, dyad.Of(9), Q{-3 * times, 2 * times})
	}
	exactly(t, one(false, 1<<63, 1), Q{1, 64}, dyad.Of(2))
	exactly(t, one(false, 1<<63, 1<<30-63), Q{1, 1 << 30}, dyad.Of(2))
}

func TestIs(t *testing.T) {
	for _, c := range []struct {
		x    dyad.D
		q    Q
		d    dyad.D
		want bool
		err  api.Errno
	}{
		{dyad.Of(9), Q{3, 2}, dyad.Of(27), true, api.OK},
		{dyad.Of(9), Q{6, 4}, dyad.Of(27), true, api.OK},
		{dyad.Of(9), Q{3, 2}, dyad.Of(26), false, api.OK},
		{dyad.Of(9), Q{3, 2}, dyad.Of(28), false, api.OK},
		{dyad.Of(4), Q{-1, 2}, one(false, 1, -1), true, api.OK},
		{dyad.Of(4), Q{-1, 2}, dyad.Of(2), false, api.OK},
		{dyad.Of(3), Q{35, 1}, of(raised(3, 35, 0), 0), true, api.OK},
		{dyad.Of(7), Q{0, 1}, dyad.Of(1), true, api.OK},
		{dyad.D{M: []uint64{0, 36, 0}, E: -64}, Q{1, 2}, one(false, 12, -1), true, api.OK},
		{dyad.Of(1), Q{1, 60000}, dyad.Of(1), true, api.OK},
		{dyad.Of(1), Q{60000, 60000}, dyad.Of(1), true, api.OK},
		{dyad.Of(1), Q{1, 60001}, dyad.Of(1), false, api.ErrLong},
		{dyad.Of(1), Q{60001, 1}, dyad.Of(1), false, api.ErrLong},
		{dyad.Of(1), Q{-60001, 1}, dyad.Of(1), false, api.ErrLong},
		{dyad.Of(1), Q{1 << 31, 1}, dyad.Of(1), false, api.ErrLong},
		{dyad.Of(1), Q{-1 << 31, 1}, dyad.Of(1), false, api.ErrLong},
		{dyad.Of(1), Q{1, 1 << 31}, dyad.Of(1), false, api.ErrLong},
		{dyad.Of(1), Q{1<<31 + 1, 1}, dyad.Of(1), false, api.ErrArg},
		{dyad.Of(1), Q{-1<<31 - 1, 1}, dyad.Of(1), false, api.ErrArg},
		{dyad.Of(1), Q{1, 1<<31 + 1}, dyad.Of(1), false, api.ErrArg},
		{dyad.Of(1), Q{1, -1<<31 - 1}, dyad.Of(1), false, api.ErrArg},
		{dyad.Of(1), Q{1, -1 << 31}, dyad.Of(1), false, api.ErrArg},
		{dyad.Of(1), Q{math.MinInt64, math.MaxInt64}, dyad.Of(1), false, api.ErrArg},
		{dyad.Of(1), Q{1 << 32, 1}, dyad.Of(1), false, api.ErrArg},
		{dyad.Of(1), Q{1, 1<<32 + 1}, dyad.Of(1), false, api.ErrArg},
		{dyad.Of(1), Q{1, 0}, dyad.Of(1), false, api.ErrArg},
		{dyad.Of(1), Q{1, -1}, dyad.Of(1), false, api.ErrArg},
		{dyad.Of(0), Q{1, 1}, dyad.Of(0), false, api.ErrArg},
		{dyad.Of(-1), Q{1, 1}, dyad.Of(1), false, api.ErrArg},
		{dyad.Of(1), Q{1, 1}, dyad.Of(-1), false, api.ErrArg},
		{dyad.Of(1), Q{1 << 31, 1}, dyad.Of(-1), false, api.ErrArg},
		{one(false, 1, 1<<30+1), Q{1, 1}, dyad.Of(1), false, api.ErrArg},
		{dyad.Of(1), Q{1, 1}, one(false, 1, math.MinInt), false, api.ErrArg},
		{one(false, 1, 1<<30), Q{1, 1}, dyad.Of(1), false, api.ErrLong},
	} {
		if got, err := Is(c.x, c.q, c.d); got != c.want || err != c.err {
			t.Errorf("P11.2: Is %s to the power of %v %s: %v, %d", brief(c.x), c.q, brief(c.d), got, err)
		}
	}
}

// TestFollows: what is told as exact is so by Is; and no other term of the exponent makes a difference.
func TestFollows(t *testing.T) {
	told := 0
	for o := uint64(1); o < 260; o++ {
		for _, e := range []int{-12, -7, -4, -3, 0, 2, 6, 24} {
			for _, q := range []Q{{1, 1}, {1, 2}, {-1, 2}, {3, 2}, {2, 3}, {5, 4}, {-5, 4}, {7, 8}, {-1, 3}, {0, 1}, {11, 1}, {5, 6}} {
				x := one(false, o, e)
				d, is, _ := Power(x, q)
				again, still, _ := Power(x, Q{q.M * 15, q.K * 15})
				if is != still || !same(d, again) {
					t.Errorf("P11.3: Power of %s and %v: %s, %v, in other terms %s, %v", brief(x), q, brief(d), is, brief(again), still)
				}
				if !is {
					continue
				}
				told++
				if so, err := Is(x, q, d); !so || err != api.OK {
					t.Errorf("P11.3: Power of %s and %v is %s, but not by Is: %v, %d", brief(x), q, brief(d), so, err)
				}
			}
		}
	}
	if told < 2000 {
		t.Errorf("P11.3: so few powers are exact that little is tested: %d", told)
	}
}

// TestLists: what is handed in stays, and what is told shares nothing with it.
func TestLists(t *testing.T) {
	long := fromBig(raised(3, 6000, 0))
	for _, c := range []struct {
		x dyad.D
		q Q
	}{
		{dyad.Of(9), Q{1, 1}}, {dyad.Of(9), Q{1, 2}}, {dyad.Of(1), Q{1, 1}}, {one(false, 8, 0), Q{1, 3}}, {dyad.D{M: []uint64{0, 9, 0}, E: -64}, Q{1, 2}}, {dyad.D{M: long}, Q{1, 6000}},
	} {
		roomy := append(make([]uint64, 0, len(c.x.M)+8), c.x.M...)
		x := dyad.D{M: roomy, E: c.x.E}
		first, _, _ := Power(x, c.q)
		if !slices.Equal(roomy, c.x.M) {
			t.Errorf("R4: Power changed %s", brief(c.x))
		}
		kept := slices.Clone(first.M)
		for i := range roomy[:cap(roomy)] {
			roomy[:cap(roomy)][i] = 7
		}
		if !slices.Equal(first.M, kept) {
			t.Errorf("R4: Power of %s shares memory", brief(c.x))
		}
		second, _, _ := Power(c.x, c.q)
		for i := range first.M {
			first.M[i] = 5
		}
		third, _, _ := Power(c.x, c.q)
		if !same(second, third) || !slices.Equal(second.M, kept) {
			t.Errorf("R4: two answers of Power of %s share memory", brief(c.x))
		}
	}
	y := dyad.D{M: []uint64{12, 0}, E: -4}
	Of(y)
	Is(y, Q{1, 1}, y)
	if !same(y, dyad.D{M: []uint64{12, 0}, E: -4}) {
		t.Errorf("R4: Of or Is changed what was handed in: %v", y)
	}
}
