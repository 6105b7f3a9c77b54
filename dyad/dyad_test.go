package dyad

import (
	"fmt"
	"math"
	"math/big"
	"slices"
	"testing"

	"planimeter/api"
	"planimeter/nat"
)

const full = math.MaxUint64

// toBig is a number by math/big, which the tests hold the package against.
func toBig(a []uint64) *big.Int {
	sum := new(big.Int)
	for i := len(a) - 1; i >= 0; i-- {
		sum.Lsh(sum, 64)
		sum.Or(sum, new(big.Int).SetUint64(a[i]))
	}
	return sum
}

// fromBig is the bare list of a number of math/big.
func fromBig(n *big.Int) []uint64 {
	rest := new(big.Int).Set(n)
	low := new(big.Int)
	mask := new(big.Int).SetUint64(full)
	var list []uint64
	for rest.Sign() > 0 {
		list = append(list, low.And(rest, mask).Uint64())
		rest.Rsh(rest, 64)
	}
	return list
}

// unit is so far down that every sample is a whole number of 2^-unit.
const unit = 4000

// worth is a dyad as a number of 2^-unit, twice as deep for a product.
func worth(d D, deep int) *big.Int {
	n := toBig(d.M)
	n.Lsh(n, uint(d.E+deep))
	if d.Neg {
		n.Neg(n)
	}
	return n
}

// fromWorth is the bare dyad of a number of 2^-deep, its noughts counted by math/big.
func fromWorth(n *big.Int, deep int) D {
	if n.Sign() == 0 {
		return D{}
	}
	low := n.TrailingZeroBits()
	size := new(big.Int).Abs(n)
	return D{Neg: n.Sign() < 0, M: fromBig(size.Rsh(size, low)), E: int(low) - deep}
}

// rolled are n numbers of a fixed rule, of less than limbs limbs.
func rolled(n, limbs int) [][]uint64 {
	var list [][]uint64
	state := uint64(5)
	for i := range n {
		number := make([]uint64, i%limbs)
		for j := range number {
			state = state*6364136223846793005 + 1442695040888963407
			number[j] = state ^ state>>29
		}
		list = append(list, number)
	}
	return list
}

// ofBits is a number with just so many bits, all of them 1.
func ofBits(n int) []uint64 {
	one := big.NewInt(1)
	return fromBig(new(big.Int).Sub(new(big.Int).Lsh(one, uint(n)), one))
}

// numbers are edges first, then numbers of a fixed rule, bare and not.
func numbers() [][]uint64 {
	list := [][]uint64{
		nil, {}, {0}, {0, 0, 0},
		{1}, {1, 0, 0}, {2}, {3}, {4}, {6, 0}, {12}, {1 << 63}, {full}, {full, 0}, {full - 1}, {1<<63 + 1},
		{0, 1}, {1, 1}, {0, 1, 0}, {0, 3}, {full, 1}, {0, 1 << 63}, {full, full}, {0, full, full, 0}, {0, 0, 12, 0, 4, 0, 0},
	}
	return append(list, rolled(12, 5)...)
}

// samples are dyads of both signs and of many exponents, noughts with a sign and an exponent among them.
func samples() []D {
	var list []D
	for i, m := range numbers() {
		for _, e := range []int{0, 1, -1, 64, -64, -70, i * 11, -i * 29} {
			list = append(list, D{M: m, E: e}, D{Neg: true, M: m, E: e})
		}
	}
	return list
}

// one is a dyad of one limb.
func one(neg bool, m uint64, e int) D {
	return D{Neg: neg, M: []uint64{m}, E: e}
}

// same holds two against each other part by part.
func same(a, b D) bool {
	return a.Neg == b.Neg && a.E == b.E && slices.Equal(a.M, b.M)
}

// short spares the reader the hundred limbs of a long list.
func short(d D) string {
	if len(d.M) > 12 {
		return fmt.Sprintf("{%v %v.. (%d limbs) %d}", d.Neg, d.M[:12], len(d.M), d.E)
	}
	return fmt.Sprint(d)
}

// is holds an answer against the one that was awaited.
func is(t *testing.T, what string, got D, err api.Errno, want D) {
	t.Helper()
	if err != api.OK || !same(got, want) {
		t.Errorf("%s: %s, %d, not %s", what, short(got), err, short(want))
	}
}

// refused holds an answer against ErrLong, beside which all is nought.
func refused(t *testing.T, what string, got D, err api.Errno) {
	t.Helper()
	if err != api.ErrLong || !same(got, D{}) {
		t.Errorf("%s: %s, %d, not error %d", what, short(got), err, api.ErrLong)
	}
}

func TestExample(t *testing.T) {
	got, err := Make(false, []uint64{12}, 1)
	is(t, "P5.1: the example", got, err, one(false, 3, 3))
}

func TestBare(t *testing.T) {
	for _, d := range samples() {
		want := fromWorth(worth(d, unit), unit)
		got, err := Make(d.Neg, d.M, d.E)
		is(t, "P5.1: Make of "+short(d), got, err, want)
		got, err = Bare(d)
		is(t, "P5.1: Bare of "+short(d), got, err, want)
	}
}

// The limit is the bare one's: the noughts of M count to E ahead of it.
func TestExponentsAtTheLimit(t *testing.T) {
	const most = 1 << 30
	for _, c := range []struct{ in, want D }{
		{one(false, 1, most), one(false, 1, most)},
		{one(true, 3, -most), one(true, 3, -most)},
		{one(true, 2, most-1), one(true, 1, most)},
		{one(false, 12, most-2), one(false, 3, most)},
		{one(false, 2, -most-1), one(false, 1, -most)},
		{one(true, 1<<63, -most-63), one(true, 1, -most)},
		{D{M: []uint64{0, 8}, E: -most - 67}, one(false, 1, -most)},
		{D{M: ofBits(70000), E: most}, D{M: ofBits(70000), E: most}},
	} {
		got, err := Bare(c.in)
		is(t, "P5.1: Bare of "+short(c.in), got, err, c.want)
		got, err = Make(c.in.Neg, c.in.M, c.in.E)
		is(t, "P5.1: Make of "+short(c.in), got, err, c.want)
		got, err = Scale(c.in, 0)
		is(t, "P5.2: Scale by 0 of "+short(c.in), got, err, c.want)
		is(t, "P5.1: Minus of "+short(c.in), Minus(c.in), api.OK, D{!c.want.Neg, c.want.M, c.want.E})
	}
}

// An exponent beyond 2^31 is as that end ahead of M's noughts: a list of 2^30 of them makes it one that can be bare.
func TestEndsOfLongLists(t *testing.T) {
	m := make([]uint64, 1<<24+1)
	m[1<<24] = 5
	for _, e := range []int{-1 << 31, -1<<31 - 1, math.MinInt} {
		got, err := Make(true, m, e)
		is(t, fmt.Sprintf("P5.1: Make of 2^30 noughts and %d", e), got, err, one(true, 5, -1<<30))
	}
	got, err := Make(true, m, -1<<31+1)
	is(t, "P5.1: Make of 2^30 noughts and 1 more", got, err, one(true, 5, -1<<30+1))
	got, err = Make(true, m, 1)
	refused(t, "P5.1: Make of 2^30 noughts and 1", got, err)
}

// beyond are dyads that can't be bare.
func beyond() []D {
	const most = 1 << 30
	return []D{
		one(false, 1, most+1), one(true, 1, most+1), one(false, 2, most), one(true, 12, most-1), {M: []uint64{0, 1}, E: most - 63},
		one(false, 1, -most-1), one(true, 2, -most-2), one(false, 3, -most-1), {M: []uint64{0, 4, 0}, E: -most - 67},
		one(false, 1, 1<<31), one(true, 5, 1<<31+1), one(false, 1, -1<<31), one(true, 5, -1<<31-1),
		one(false, 1, math.MaxInt), one(true, 1<<63, math.MaxInt), one(false, 1, math.MinInt), one(true, 1<<63, math.MinInt),
		{M: []uint64{6, 0, 0}, E: math.MaxInt - 1}, {Neg: true, M: []uint64{6, 0, 0}, E: math.MinInt + 1},
	}
}

func TestBeyondTheLimit(t *testing.T) {
	for _, d := range beyond() {
		got, err := Make(d.Neg, d.M, d.E)
		refused(t, "P5.1: Make of "+short(d), got, err)
		got, err = Bare(d)
		refused(t, "P5.1: Bare of "+short(d), got, err)
		is(t, "P5.1: Minus of "+short(d), Minus(d), api.OK, D{!d.Neg, d.M, d.E})
		for _, n := range []int{0, 1, -1, 5, -5, 1 << 31, -1 << 31, math.MaxInt, math.MinInt} {
			got, err = Scale(d, n)
			refused(t, fmt.Sprintf("P5.2: Scale of %s by %d", short(d), n), got, err)
		}
		for _, other := range []D{{}, one(true, 0, 7), one(false, 1, 0), one(true, 3, 1<<30), one(true, 3, -1<<30), d, Minus(d)} {
			got, err = Add(d, other)
			refused(t, "P5.2: Add of "+short(d)+" and "+short(other), got, err)
			got, err = Add(other, d)
			refused(t, "P5.2: Add of "+short(other)+" and "+short(d), got, err)
			got, err = Mul(d, other)
			refused(t, "P5.2: Mul of "+short(d)+" and "+short(other), got, err)
			got, err = Mul(other, d)
			refused(t, "P5.2: Mul of "+short(other)+" and "+short(d), got, err)
		}
	}
}

// Nought is nought at every exponent, even one that no other dyad could have.
func TestNoughts(t *testing.T) {
	for _, m := range [][]uint64{nil, {}, {0}, make([]uint64, 3000)} {
		for _, e := range []int{0, 3, 1 << 30, 1<<30 + 1, -1<<30 - 1, 1 << 31, math.MaxInt, math.MinInt} {
			for _, neg := range []bool{false, true} {
				nought := D{neg, m, e}
				got, err := Make(neg, m, e)
				is(t, "P5.1: Make of "+short(nought), got, err, D{})
				got, err = Bare(nought)
				is(t, "P5.1: Bare of "+short(nought), got, err, D{})
				is(t, "P5.1: Minus of "+short(nought), Minus(nought), api.OK, D{})
				if top, ok := Top(nought); top != 0 || ok {
					t.Errorf("P5.1: Top of %s: %d, %v", short(nought), top, ok)
				}
				if sign := Sign(nought); sign != 0 {
					t.Errorf("P5.1: Sign of %s: %d", short(nought), sign)
				}
				withNought(t, nought)
			}
		}
	}
}

// withNought holds what 0 does to sums and products.
func withNought(t *testing.T, nought D) {
	t.Helper()
	for _, n := range []int{0, 1, -1, 1 << 31, math.MaxInt, math.MinInt} {
		got, err := Scale(nought, n)
		is(t, fmt.Sprintf("P5.2: Scale of %s by %d", short(nought), n), got, err, D{})
	}
	for _, d := range []D{{}, one(true, 0, 9), one(true, 12, 5), one(false, 2, -1<<30), one(true, 1, 1<<30), {M: ofBits(70001), E: 7}} {
		bare, _ := Bare(d)
		got, err := Add(nought, d)
		is(t, "P5.2: Add of "+short(nought)+" and "+short(d), got, err, bare)
		got, err = Add(d, nought)
		is(t, "P5.2: Add of "+short(d)+" and "+short(nought), got, err, bare)
		got, err = Mul(nought, d)
		is(t, "P5.2: Mul of "+short(nought)+" and "+short(d), got, err, D{})
		got, err = Mul(d, nought)
		is(t, "P5.2: Mul of "+short(d)+" and "+short(nought), got, err, D{})
	}
}

func TestOf(t *testing.T) {
	list := []int64{0, math.MaxInt64, math.MinInt64, math.MaxInt64 - 1, math.MinInt64 + 1, math.MinInt64 + 2, 1 << 62, -1 << 62, 3 << 61, -3 << 61}
	for n := int64(1); n < 70; n++ {
		list = append(list, n, -n, 1<<40+n, -1<<40-n)
	}
	for _, n := range list {
		is(t, fmt.Sprintf("P5.1: Of %d", n), Of(n), api.OK, fromWorth(big.NewInt(n), 0))
	}
}

func TestTopAndSign(t *testing.T) {
	for _, d := range samples() {
		n := worth(d, unit)
		top, ok := Top(d)
		want := 0
		if n.Sign() != 0 {
			want = n.BitLen() - 1 - unit
		}
		if top != want || ok != (n.Sign() != 0) {
			t.Errorf("P5.1: Top of %s: %d, %v, not %d", short(d), top, ok, want)
		}
		if sign := Sign(d); sign != n.Sign() {
			t.Errorf("P5.1: Sign of %s: %d", short(d), sign)
		}
	}
}

func TestTopAndSignBeyondTheLimit(t *testing.T) {
	for _, c := range []struct {
		d   D
		top int
	}{
		{one(false, 1, 1<<31), 1 << 31},
		{one(true, 1, 1<<31+1), 1 << 31},
		{one(true, 1, 1<<31-1), 1<<31 - 1},
		{one(false, 6, math.MaxInt), 1<<31 + 2},
		{one(true, 1, -1<<31), -1 << 31},
		{one(false, 1, -1<<31-1), -1 << 31},
		{one(false, 1, -1<<31+1), -1<<31 + 1},
		{one(true, 6, math.MinInt), -1<<31 + 2},
		{D{M: []uint64{0, 1, 0}, E: math.MaxInt}, 1<<31 + 64},
		{one(false, 3, 1<<30+5), 1<<30 + 6},
		{one(true, 3, -1<<30-5), -1<<30 - 4},
	} {
		if top, ok := Top(c.d); top != c.top || !ok {
			t.Errorf("P5.1: Top of %s: %d, %v, not %d", short(c.d), top, ok, c.top)
		}
		want := 1
		if c.d.Neg {
			want = -1
		}
		if sign := Sign(c.d); sign != want {
			t.Errorf("P5.1: Sign of %s: %d", short(c.d), sign)
		}
	}
}

func TestCmp(t *testing.T) {
	list := samples()
	worths := make([]*big.Int, len(list))
	for i, d := range list {
		worths[i] = worth(d, unit)
	}
	for i, a := range list {
		for j, b := range list {
			if got := Cmp(a, b); got != worths[i].Cmp(worths[j]) {
				t.Fatalf("P5.1: Cmp of %s and %s: %d", short(a), short(b), got)
			}
		}
	}
}

// Each of these is worth more than the one ahead of it, and as much as itself.
func TestCmpOfFarOnes(t *testing.T) {
	long := D{M: ofBits(70000), E: -69000}
	longer := D{M: ofBits(70001), E: -69001}
	list := []D{
		one(true, 3, math.MaxInt), one(true, 1, 1<<31), one(true, 1, 1<<31-1), one(true, 1, 1<<30), Minus(longer), Minus(long),
		one(true, 1, -1<<30), one(true, 1, -1<<31+1), one(true, 1, -1<<31), {},
		one(false, 1, math.MinInt), one(false, 3, -1<<31), one(false, 1, -1<<31+2), one(false, 1, -1<<30),
		long, longer, one(false, 1, 1000), one(false, 1, 1<<30), one(false, 3, 1<<30), one(false, 1, 1<<31), one(false, 3, 1<<40), {M: []uint64{0, 1}, E: math.MaxInt},
	}
	for i, a := range list {
		for j, b := range list {
			want := 0
			if i < j {
				want = -1
			}
			if i > j {
				want = 1
			}
			if got := Cmp(a, b); got != want {
				t.Errorf("P5.1: Cmp of %s and %s: %d", short(a), short(b), got)
			}
		}
	}
}

// An exponent beyond 2^31 is as that end.
func TestCmpOfEnds(t *testing.T) {
	for _, c := range [][2]D{
		{one(false, 1, 1<<31), one(false, 1, 1<<31+1)},
		{one(true, 6, 1<<31), one(true, 6, math.MaxInt)},
		{one(false, 1, -1<<31), one(false, 1, math.MinInt)},
		{one(false, 2, -1<<31-1), one(false, 1, -1<<31+1)},
		{one(true, 0, math.MaxInt), one(false, 0, math.MinInt)},
	} {
		if got := Cmp(c[0], c[1]); got != 0 {
			t.Errorf("P5.1: Cmp of %s and %s: %d", short(c[0]), short(c[1]), got)
		}
		if got := Cmp(c[1], c[0]); got != 0 {
			t.Errorf("P5.1: Cmp of %s and %s: %d", short(c[1]), short(c[0]), got)
		}
	}
}

func TestSumsAndProducts(t *testing.T) {
	list := samples()
	for i, a := range list {
		for j := i % 3; j < len(list); j += 3 {
			b := list[j]
			sum := new(big.Int).Add(worth(a, unit), worth(b, unit))
			got, err := Add(a, b)
			is(t, "P5.3: Add of "+short(a)+" and "+short(b), got, err, fromWorth(sum, unit))
			product := new(big.Int).Mul(worth(a, unit), worth(b, unit))
			got, err = Mul(a, b)
			is(t, "P5.3: Mul of "+short(a)+" and "+short(b), got, err, fromWorth(product, 2*unit))
		}
	}
}

func TestMinus(t *testing.T) {
	for _, d := range samples() {
		n := worth(d, unit)
		is(t, "P5.1: Minus of "+short(d), Minus(d), api.OK, fromWorth(n.Neg(n), unit))
	}
}

func TestScale(t *testing.T) {
	for _, d := range samples() {
		for _, n := range []int{0, 1, -1, 63, 64, -64, 1000, -1000} {
			got, err := Scale(d, n)
			is(t, fmt.Sprintf("P5.2: Scale of %s by %d", short(d), n), got, err, fromWorth(worth(d, unit+n), unit))
		}
	}
}

func TestScaleAtTheLimit(t *testing.T) {
	const most = 1 << 30
	for _, c := range []struct {
		d    D
		n    int
		want D
	}{
		{one(false, 1, 0), most, one(false, 1, most)},
		{one(false, 1, 0), -most, one(false, 1, -most)},
		{one(true, 3, -most), 2 * most, one(true, 3, most)},
		{one(true, 3, most), -2 * most, one(true, 3, -most)},
		{one(true, 2, -most-1), 2 * most, one(true, 1, most)},
	} {
		got, err := Scale(c.d, c.n)
		is(t, fmt.Sprintf("P5.2: Scale of %s by %d", short(c.d), c.n), got, err, c.want)
	}
	for _, c := range []struct {
		d D
		n int
	}{
		{one(false, 1, most), 1}, {one(false, 1, -most), -1}, {one(false, 2, 0), most}, {one(false, 2, -2), -most},
		{one(true, 3, -most), 2*most + 1}, {one(true, 3, most), -2*most - 1}, {one(true, 3, -most), 4 * most}, {one(true, 3, most), -4 * most},
		{one(false, 1, 0), math.MaxInt}, {one(false, 1, most), math.MaxInt}, {one(false, 1, -most), math.MinInt}, {one(false, 1, most), math.MinInt},
	} {
		got, err := Scale(c.d, c.n)
		refused(t, fmt.Sprintf("P5.2: Scale of %s by %d", short(c.d), c.n), got, err)
	}
}

// From the lower exponent up to the greater top there may be 65535, not one more.
func TestHowFarSumsReach(t *testing.T) {
	for _, low := range []int{0, -7, 1<<30 - 65535, -1 << 30} {
		bottom, top := one(false, 1, low), one(false, 1, low+65535)
		want := new(big.Int).SetBit(big.NewInt(1), 65535, 1)
		got, err := Add(bottom, top)
		is(t, "P5.2: Add over 65535", got, err, D{M: fromBig(want), E: low})
		got, err = Add(Minus(top), bottom)
		is(t, "P5.2: Add over 65535, below 0", got, err, D{Neg: true, M: ofBits(65535), E: low})
	}
	for _, low := range []int{0, -7, 1<<30 - 65536, -1 << 30} {
		bottom, top := one(true, 1, low), one(false, 1, low+65536)
		got, err := Add(bottom, top)
		refused(t, "P5.2: Add over 65536", got, err)
		got, err = Add(top, bottom)
		refused(t, "P5.2: Add over 65536", got, err)
	}
}

// Of two that together need more than one of them: the greater top and the lower exponent may be one dyad's.
func TestHowFarLongSumsReach(t *testing.T) {
	got, err := Add(D{M: ofBits(65536), E: 3}, one(false, 1, 3))
	is(t, "P5.2: Add of 65536 bits with a carry", got, err, one(false, 1, 65539))
	got, err = Add(one(true, 1, 40), D{M: ofBits(65536), E: 3})
	less := toBig(ofBits(65536))
	is(t, "P5.2: Add of 65536 bits", got, err, D{M: fromBig(less.SetBit(less, 37, 0)), E: 3})
	got, err = Add(D{M: ofBits(65537), E: 3}, one(true, 1, 40))
	refused(t, "P5.2: Add of 65537 bits", got, err)
	got, err = Add(D{M: ofBits(65537), E: 3}, D{Neg: true, M: ofBits(65537), E: 3})
	refused(t, "P5.2: Add of 65537 bits, less themselves", got, err)
	// The noughts of a list that isn't bare aren't the number's.
	got, err = Add(D{M: append(make([]uint64, 2000), 1), E: -128000}, one(false, 1, 1))
	is(t, "P5.2: Add of a long list", got, err, one(false, 3, 0))
	got, err = Add(one(false, 1, 0), one(true, 1<<63, 65536-63))
	refused(t, "P5.2: Add of one that isn't bare", got, err)
	got, err = Add(one(false, 2, -1), one(true, 1, 65535))
	is(t, "P5.2: Add of one that isn't bare", got, err, D{Neg: true, M: ofBits(65535), E: 0})
}

// A sum is told bare: carries may move its exponent beyond the limit.
func TestSumsBeyondTheLimit(t *testing.T) {
	const most = 1 << 30
	got, err := Add(one(false, 1, most), one(false, 1, most))
	refused(t, "P5.2: Add of the greatest powers", got, err)
	got, err = Add(one(true, 3, most), one(true, 5, most))
	refused(t, "P5.2: Add of the greatest exponents", got, err)
	got, err = Add(one(false, 1, most), one(true, 1, most))
	is(t, "P5.2: Add of the greatest power and its minus", got, err, D{})
	got, err = Add(one(false, 1, most), one(false, 1, most-1))
	is(t, "P5.2: Add of two great powers", got, err, one(false, 3, most-1))
	got, err = Add(one(false, 1, -most), one(false, 1, -most))
	is(t, "P5.2: Add of the least powers", got, err, one(false, 1, 1-most))
	got, err = Add(one(true, 1, most), one(false, 1, -most))
	refused(t, "P5.2: Add of the greatest and the least power", got, err)
}

func TestProductsAtTheLimit(t *testing.T) {
	const most = 1 << 30
	got, err := Mul(one(true, 3, most-4), one(false, 5, 4))
	is(t, "P5.2: Mul up to the limit", got, err, one(true, 15, most))
	got, err = Mul(one(true, 3, -most+4), one(true, 5, -4))
	is(t, "P5.2: Mul down to the limit", got, err, one(false, 15, -most))
	got, err = Mul(one(true, 3, most), one(true, 4, -most-2))
	is(t, "P5.2: Mul from end to end", got, err, one(false, 3, 0))
	for _, c := range [][2]D{
		{one(true, 3, most-4), one(false, 5, 5)}, {one(true, 3, most), one(false, 2, 0)}, {one(true, 3, most), one(true, 3, most)},
		{one(true, 3, -most+4), one(false, 5, -5)}, {one(true, 3, -most), one(false, 1, -1)}, {one(true, 3, -most), one(true, 3, -most)},
	} {
		got, err = Mul(c[0], c[1])
		refused(t, "P5.2: Mul of "+short(c[0])+" and "+short(c[1]), got, err)
	}
}

// The bits of both together are counted of the bare ones.
func TestHowLongProductsGet(t *testing.T) {
	product := new(big.Int).Mul(toBig(ofBits(40000)), toBig(ofBits(25536)))
	got, err := Mul(D{M: ofBits(40000), E: 9}, D{Neg: true, M: ofBits(25536), E: -20})
	is(t, "P5.2: Mul of 65536 bits", got, err, D{Neg: true, M: fromBig(product), E: -11})
	got, err = Mul(D{M: ofBits(40000)}, D{M: ofBits(25537)})
	refused(t, "P5.2: Mul of 65537 bits", got, err)
	got, err = Mul(D{M: ofBits(65536)}, one(true, 1, 0))
	refused(t, "P5.2: Mul of 65536 bits by -1", got, err)
	got, err = Mul(D{M: ofBits(65535)}, one(true, 1<<40, 0))
	is(t, "P5.2: Mul of 65535 bits by a power", got, err, D{Neg: true, M: ofBits(65535), E: 40})
	got, err = Mul(D{M: append(make([]uint64, 2000), 3)}, one(true, 5, -128000))
	is(t, "P5.2: Mul of a long list", got, err, one(true, 15, 0))
}

// calls are all of the package that tell a dyad, with its list.
func calls(a, b D) map[string][]uint64 {
	made, _ := Make(a.Neg, a.M, a.E)
	bare, _ := Bare(a)
	sum, _ := Add(a, b)
	more, _ := Add(a, D{})
	other, _ := Add(D{}, a)
	product, _ := Mul(a, b)
	once, _ := Mul(a, Of(1))
	scaled, _ := Scale(a, 0)
	moved, _ := Scale(a, 5)
	Top(a)
	Sign(a)
	Cmp(a, b)
	return map[string][]uint64{
		"Make": made.M, "Bare": bare.M, "Add": sum.M, "Add of 0": more.M, "Add to 0": other.M,
		"Mul": product.M, "Mul by 1": once.M, "Scale": moved.M, "Scale by 0": scaled.M, "Minus": Minus(a).M,
	}
}

// roomy is a list with spare room behind it, which no call may write to or hand out.
func roomy(a []uint64) (list, all []uint64) {
	all = append(slices.Clone(a), 77, 77)
	return all[:len(a)], all
}

// spoil writes over all that a list reaches.
func spoil(list []uint64) {
	list = list[:cap(list)]
	for i := range list {
		list[i] ^= full
	}
}

func TestWhatIsHandedInStays(t *testing.T) {
	for _, m := range numbers() {
		for _, e := range []int{0, 2, -64, 1<<30 + 1, math.MaxInt, math.MinInt} {
			for _, other := range []D{one(true, 3, -2), {M: []uint64{6, full}, E: 1}} {
				list, all := roomy(m)
				second, allOfSecond := roomy(other.M)
				kept, keptSecond := slices.Clone(all), slices.Clone(allOfSecond)
				for what, answer := range calls(D{true, list, e}, D{other.Neg, second, other.E}) {
					spoil(answer)
					if !slices.Equal(all, kept) || !slices.Equal(allOfSecond, keptSecond) {
						t.Fatalf("R4: %s of %v, %d and %s changes or shares what is handed in", what, m, e, short(other))
					}
				}
			}
		}
	}
}

// A dyad and its own list may stand on both sides of a sum or product.
func TestOneWithItself(t *testing.T) {
	for _, d := range samples() {
		twice, err := Add(d, d)
		want, _ := Scale(d, 1)
		is(t, "P5.3: Add of one and itself: "+short(d), twice, err, want)
		none, err := Add(d, Minus(d))
		is(t, "P5.3: Add of one and its minus: "+short(d), none, err, D{})
		square, err := Mul(d, d)
		is(t, "P5.3: Mul of one and itself: "+short(d), square, err, fromWorth(new(big.Int).Mul(worth(d, unit), worth(d, unit)), 2*unit))
		if nat.Bits(square.M) > 0 && !nat.Odd(square.M) {
			t.Errorf("P5.2: the square of %s isn't bare", short(d))
		}
	}
}
