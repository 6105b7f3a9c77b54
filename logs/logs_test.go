package logs

import (
	"fmt"
	"math"
	"math/big"
	"slices"
	"testing"

	"planimeter/api"
	"planimeter/dyad"
)

const full = math.MaxUint64

// extra is how many bits more than asked for the tests reckon by math/big.
const extra = 256

// farEnd is the greatest top, either way.
const farEnd = 1 << 20

// toBig is a number by math/big, which the tests hold the package against.
func toBig(a []uint64) *big.Int {
	sum := new(big.Int)
	for i := len(a) - 1; i >= 0; i-- {
		sum.Lsh(sum, 64)
		sum.Or(sum, new(big.Int).SetUint64(a[i]))
	}
	return sum
}

// fromBig is the bare list of a number of math/big.
func fromBig(n *big.Int) []uint64 {
	rest := new(big.Int).Set(n)
	low := new(big.Int)
	mask := new(big.Int).SetUint64(full)
	var list []uint64
	for rest.Sign() > 0 {
		list = append(list, low.And(rest, mask).Uint64())
		rest.Rsh(rest, 64)
	}
	return list
}

// pow2 is 2^n.
func pow2(n int) *big.Int { return new(big.Int).Lsh(big.NewInt(1), uint(n)) }

// rolled is an odd number of a fixed rule, of just so many bits.
func rolled(seed uint64, count int) *big.Int {
	state, number := seed, new(big.Int)
	for range count/64 + 1 {
		state = state*6364136223846793005 + 1442695040888963407
		number.Lsh(number, 64).Or(number, new(big.Int).SetUint64(state^state>>29))
	}
	number.Mod(number, pow2(count-1))
	return number.SetBit(number, count-1, 1).SetBit(number, 0, 1)
}

// number is m times 2^e, as it is handed in.
func number(m *big.Int, e int) dyad.D { return dyad.D{M: fromBig(m), E: e} }

// small is m times 2^e.
func small(m int64, e int) dyad.D { return number(big.NewInt(m), e) }

// text is a dyad, shortly.
func text(d dyad.D) string {
	if len(d.M) > 2 {
		return fmt.Sprintf("%v with %d limbs times 2^%d", d.Neg, len(d.M), d.E)
	}
	return fmt.Sprintf("%v %v times 2^%d", d.Neg, d.M, d.E)
}

// far is the greatest and the least number that Near tells of.
func far() (least, most dyad.D) {
	ones := new(big.Int).Sub(pow2(4000), big.NewInt(1))
	return small(1, -farEnd), number(ones, farEnd-3999)
}

// numbers are those that Near tells of: small ones, those next to 1, to a power of two and to the turn, long ones, far
// ones, and some that are not bare when they are handed in.
func numbers() []dyad.D {
	var list []dyad.D
	for m := int64(1); m < 40; m++ {
		list = append(list, small(m, 0), small(m, -4), small(m, 60))
	}
	for _, n := range []int{2, 3, 10, 53, 62, 63, 64, 65, 127, 128, 129, 700, 3999} {
		one := big.NewInt(1)
		power := pow2(n)
		half := new(big.Int).Rsh(new(big.Int).Mul(power, big.NewInt(3)), 1)
		for _, e := range []int{-n, 1 - n, 0, 77, -2000} {
			list = append(list, number(new(big.Int).Add(power, one), e), number(new(big.Int).Sub(power, one), e),
				number(new(big.Int).Add(half, one), e), number(new(big.Int).Sub(half, one), e), number(half, e))
		}
	}
	for i := range 20 {
		count := 5 + 199*i
		list = append(list, number(rolled(uint64(i), count), -count), number(rolled(uint64(i+90), count+4), 9000*(i-10)))
	}
	least, most := far()
	list = append(list, least, most, small(1, farEnd), small(3, farEnd-1), small(3, -farEnd), small(7, farEnd-2), number(rolled(5, 4000), -farEnd))
	list = append(list, number(pow2(5000), -5000), number(pow2(5000), 0), number(pow2(70000), 12), dyad.D{M: []uint64{0, 12, 0, 0}, E: -70},
		dyad.D{M: []uint64{6, 0}, E: -1}, number(new(big.Int).Lsh(rolled(8, 4000), 300), -4300))
	return list
}

// noNumbers are those that Near tells nothing of: not above 0, just too long, just too far, and what can't be bare.
func noNumbers() []dyad.D {
	long := rolled(4, 4001)
	list := []dyad.D{{}, dyad.Of(0), {M: []uint64{}}, {M: []uint64{0, 0}, E: 5}, {Neg: true, M: []uint64{0}}, dyad.Of(-1), dyad.Of(-3),
		dyad.Of(math.MinInt64), {Neg: true, M: []uint64{1}, E: -1}, {Neg: true, M: fromBig(rolled(3, 4000)), E: -4000},
		number(long, 0), number(long, -4000), number(new(big.Int).Add(pow2(4000), big.NewInt(1)), -4000), number(rolled(1, 70000), -69999),
		small(1, farEnd+1), small(3, farEnd), small(7, farEnd-1), small(1, -farEnd-1), small(3, -farEnd-2), number(rolled(6, 4000), farEnd-3998),
		small(1, api.MaxExp), small(1, -api.MaxExp), small(1, api.MaxExp+1), small(1, -api.MaxExp-1), small(3, math.MaxInt), small(3, math.MinInt),
		small(1, 1<<31), small(1, -1<<31), small(5, 1<<32), small(5, -1<<32), {Neg: true, M: []uint64{1}, E: math.MinInt}, {E: math.MaxInt},
		{M: []uint64{0, 0, 1 << 63}, E: -api.MaxExp}}
	return append(list, number(pow2(1<<20+1), 0), small(2, math.MaxInt))
}

// bare is d as the tests reckon with it.
func bare(t *testing.T, d dyad.D) (m *big.Int, e int) {
	t.Helper()
	m = toBig(d.M)
	if d.Neg || m.Sign() == 0 {
		t.Fatalf("%s is no number of the tests", text(d))
	}
	low := int(m.TrailingZeroBits())
	return m.Rsh(m, uint(low)), d.E + low
}

// isBare is whether a list that was told has no leading noughts.
func isBare(a []uint64) bool { return len(a) == 0 || a[len(a)-1] != 0 }

func TestNear(t *testing.T) {
	for _, d := range numbers() {
		m, e := bare(t, d)
		b := m.BitLen()
		power := pow2(b - 1)
		if new(big.Int).Lsh(m, 1).Cmp(new(big.Int).Mul(power, big.NewInt(3))) >= 0 {
			power.Lsh(power, 1)
		}
		num, den, neg, told, ok := Near(d)
		if !ok || !isBare(num) || !isBare(den) {
			t.Errorf("P13.1: Near of %s: %v, %v, %v", text(d), ok, num, den)
			continue
		}
		less, sum := new(big.Int).Sub(m, power), new(big.Int).Add(m, power)
		if toBig(num).Cmp(new(big.Int).Abs(less)) != 0 || toBig(den).Cmp(sum) != 0 || neg != (less.Sign() < 0) {
			t.Errorf("P13.1: Near of %s: %d limbs, %d limbs, %v", text(d), len(num), len(den), neg)
		}
		if told != e+power.BitLen()-1 {
			t.Errorf("P13.1: Near of %s: 2^%d", text(d), told)
		}
		isNear(t, d, num, den, neg, told)
	}
}

// isNear holds what Near tells against the number itself.
func isNear(t *testing.T, d dyad.D, num, den []uint64, neg bool, e int) {
	t.Helper()
	less, sum := new(big.Int).Sub(toBig(den), toBig(num)), new(big.Int).Add(toBig(den), toBig(num))
	if new(big.Int).Mul(toBig(num), big.NewInt(3)).Cmp(toBig(den)) > 0 {
		t.Errorf("P13.1: Near of %s: more than a third", text(d))
	}
	if neg {
		less, sum = sum, less
	}
	// d is sum divided by less, times 2^e.
	left, right := less.Mul(less, toBig(d.M)), sum
	if more := d.E - e; more > 0 {
		left.Lsh(left, uint(more))
	} else {
		right = new(big.Int).Lsh(sum, uint(-more))
	}
	if left.Cmp(right) != 0 {
		t.Errorf("P13.1: Near of %s: another number", text(d))
	}
}

func TestNearAsWritten(t *testing.T) {
	most := math.MaxInt64
	cases := []struct {
		d        dyad.D
		num, den []uint64
		neg      bool
		e        int
	}{
		{dyad.Of(1), nil, []uint64{2}, false, 0}, {dyad.Of(2), nil, []uint64{2}, false, 1}, {small(1, -5), nil, []uint64{2}, false, -5},
		{dyad.Of(3), []uint64{1}, []uint64{7}, true, 2}, {dyad.Of(5), []uint64{1}, []uint64{9}, false, 2}, {dyad.Of(6), []uint64{1}, []uint64{7}, true, 3},
		{dyad.Of(7), []uint64{1}, []uint64{15}, true, 3}, {dyad.Of(11), []uint64{3}, []uint64{19}, false, 3}, {dyad.Of(13), []uint64{3}, []uint64{29}, true, 4},
		{dyad.Of(12), []uint64{1}, []uint64{7}, true, 4}, {dyad.Of(int64(most)), []uint64{1}, []uint64{full}, true, 63},
		{dyad.D{M: []uint64{full}}, []uint64{1}, []uint64{full, 1}, true, 64}, {dyad.D{M: []uint64{12, 0}, E: -3}, []uint64{1}, []uint64{7}, true, 1},
		{dyad.D{M: []uint64{1, 1}, E: -64}, []uint64{1}, []uint64{1, 2}, false, 0},
	}
	for _, c := range cases {
		num, den, neg, e, ok := Near(c.d)
		if !ok || !slices.Equal(num, c.num) || !slices.Equal(den, c.den) || neg != c.neg || e != c.e {
			t.Errorf("P13.1: Near of %s: %v, %v, %v, %d, %v", text(c.d), num, den, neg, e, ok)
		}
	}
}

func TestNearOfNone(t *testing.T) {
	for _, d := range noNumbers() {
		if num, den, neg, e, ok := Near(d); ok || len(num)+len(den) != 0 || neg || e != 0 {
			t.Errorf("P13.1: Near of %s: %d limbs, %d limbs, %v, %d, %v", text(d), len(num), len(den), neg, e, ok)
		}
	}
}
