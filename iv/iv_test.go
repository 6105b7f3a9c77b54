package iv

import (
	"fmt"
	"math"
	"math/big"
	"slices"
	"testing"

	"planimeter/api"
	"planimeter/dyad"
	"planimeter/series"
)

const full = math.MaxUint64

// deep is how far below 1 the ends reach that the tests hold against math/big.
const deep = 400

// toBig is a number by math/big, which the tests hold the package against.
func toBig(a []uint64) *big.Int {
	sum := new(big.Int)
	for i := len(a) - 1; i >= 0; i-- {
		sum.Lsh(sum, 64)
		sum.Or(sum, new(big.Int).SetUint64(a[i]))
	}
	return sum
}

// fromBig is the bare list of a number of math/big.
func fromBig(n *big.Int) []uint64 {
	rest := new(big.Int).Set(n)
	low := new(big.Int)
	mask := new(big.Int).SetUint64(full)
	var list []uint64
	for rest.Sign() > 0 {
		list = append(list, low.And(rest, mask).Uint64())
		rest.Rsh(rest, 64)
	}
	return list
}

// pow2 is 2^n.
func pow2(n int) *big.Int { return new(big.Int).Lsh(big.NewInt(1), uint(n)) }

// ones is 2^n less 1: n bits, all of them 1.
func ones(n int) *big.Int { return new(big.Int).Sub(pow2(n), big.NewInt(1)) }

// rolled is an odd number of a fixed rule, of just so many bits.
func rolled(seed uint64, count int) *big.Int {
	state, number := seed, new(big.Int)
	for range count/64 + 1 {
		state = state*6364136223846793005 + 1442695040888963407
		number.Lsh(number, 64).Or(number, new(big.Int).SetUint64(state^state>>29))
	}
	number.Mod(number, pow2(count-1))
	return number.SetBit(number, count-1, 1).SetBit(number, 0, 1)
}

// number is m times 2^e, as it is handed in.
func number(m *big.Int, e int) dyad.D {
	return dyad.D{Neg: m.Sign() < 0, M: fromBig(new(big.Int).Abs(m)), E: e}
}

// small is m times 2^e.
func small(m int64, e int) dyad.D { return number(big.NewInt(m), e) }

// worth is d times 2^at; the caller sees to it that this is whole.
func worth(d dyad.D, at int) *big.Int {
	m := toBig(d.M)
	if m.Sign() == 0 {
		return m
	}
	if d.Neg {
		m.Neg(m)
	}
	if n := d.E + at; n >= 0 {
		return m.Lsh(m, uint(n))
	}
	return m.Rsh(m, uint(-d.E-at))
}

// from is an interval of whole numbers.
func from(lo, hi int64) series.I { return series.I{Lo: dyad.Of(lo), Hi: dyad.Of(hi)} }

// text is an interval, shortly.
func text(i series.I) string { return end(i.Lo) + " to " + end(i.Hi) }

func end(d dyad.D) string {
	sign := ""
	if d.Neg {
		sign = "-"
	}
	if len(d.M) > 2 {
		return fmt.Sprintf("%s(%d limbs) times 2^%d", sign, len(d.M), d.E)
	}
	return fmt.Sprintf("%s%v times 2^%d", sign, d.M, d.E)
}

// isBareDyad is whether d is told as dyads are.
func isBareDyad(d dyad.D) bool {
	again, err := dyad.Bare(d)
	return err == api.OK && again.Neg == d.Neg && again.E == d.E && slices.Equal(again.M, d.M)
}

func isNought(d dyad.D) bool { return !d.Neg && len(d.M) == 0 && d.E == 0 }

// same is whether both are the same as they stand.
func same(a, b dyad.D) bool { return a.Neg == b.Neg && a.E == b.E && slices.Equal(a.M, b.M) }

// is holds an answer without an error against both ends times 2^at.
func is(t *testing.T, what string, got series.I, err api.Errno, lo, hi *big.Int, at int) {
	t.Helper()
	if err != api.OK || !isBareDyad(got.Lo) || !isBareDyad(got.Hi) || worth(got.Lo, at).Cmp(lo) != 0 || worth(got.Hi, at).Cmp(hi) != 0 {
		t.Errorf("%s: %s, %d", what, text(got), err)
	}
}

// isJust holds an answer without an error against an interval, which needn't be bare.
func isJust(t *testing.T, what string, got series.I, err api.Errno, want series.I) {
	t.Helper()
	lo, _ := dyad.Bare(want.Lo)
	hi, _ := dyad.Bare(want.Hi)
	if err != api.OK || !same(got.Lo, lo) || !same(got.Hi, hi) {
		t.Errorf("%s: %s, %d, not %s", what, text(got), err, text(want))
	}
}

// refused holds an answer against an error and nothing else.
func refused(t *testing.T, what string, got series.I, err, want api.Errno) {
	t.Helper()
	if err != want || !isNought(got.Lo) || !isNought(got.Hi) {
		t.Errorf("%s: %s, %d, not %d", what, text(got), err, want)
	}
}

// numbers are ends in order, of which some aren't bare, and some are worth the same.
func numbers() []dyad.D {
	list := []dyad.D{{}, {M: []uint64{0, 0}}, {Neg: true, M: []uint64{0}, E: math.MaxInt}, {E: math.MinInt}}
	sizes := []dyad.D{small(1, 0), small(3, 0), small(3, -1), {M: []uint64{12, 0, 0}, E: -3}, {M: []uint64{0, 12}, E: -66}, small(1, -deep), small(1, 70),
		number(ones(64), -64), number(ones(65), -64), number(ones(130), -140), number(rolled(3, 200), -150), number(rolled(4, 333), -399), small(1001, 0)}
	for _, d := range sizes {
		minus := d
		minus.Neg = true
		list = append(list, d, minus)
	}
	slices.SortStableFunc(list, func(a, b dyad.D) int { return worth(a, deep).Cmp(worth(b, deep)) })
	return list
}

// intervals are all that go from one of numbers to one that isn't less.
func intervals() []series.I {
	list := numbers()
	var all []series.I
	for _, lo := range list {
		for _, hi := range list {
			if worth(lo, deep).Cmp(worth(hi, deep)) <= 0 {
				all = append(all, series.I{Lo: lo, Hi: hi})
			}
		}
	}
	return all
}

// some is one in so many, where all of them would take long.
func some(list []series.I, in int) []series.I {
	var kept []series.I
	for i := in / 2; i < len(list); i += in {
		kept = append(kept, list[i])
	}
	return kept
}

// ends are dyads at the ends of exponents that can be bare.
func ends() []dyad.D {
	return []dyad.D{small(1, api.MaxExp), small(-1, api.MaxExp), small(3, api.MaxExp), small(1, -api.MaxExp), small(-3, -api.MaxExp), small(2, api.MaxExp-1),
		small(4, -api.MaxExp-2), number(pow2(70000), api.MaxExp-70000), number(pow2(70000), -api.MaxExp-70000), number(ones(70000), -api.MaxExp),
		number(ones(70000), api.MaxExp), number(new(big.Int).Neg(ones(66000)), 0)}
}

// noDyads are those that can't be bare.
func noDyads() []dyad.D {
	return []dyad.D{small(1, api.MaxExp+1), small(-1, api.MaxExp+1), small(1, -api.MaxExp-1), small(-1, -api.MaxExp-1), small(2, api.MaxExp), small(4, -api.MaxExp-3),
		small(3, 1<<31), small(-3, -1<<31), small(5, 1<<40), small(5, math.MaxInt), small(-1, math.MaxInt), small(1, math.MinInt), small(-7, math.MinInt),
		{M: []uint64{0, 1}, E: api.MaxExp - 63}, {M: []uint64{1, 0, 0}, E: api.MaxExp + 1}, number(ones(70000), api.MaxExp+1)}
}

// noIntervals aren't right: an end that can't be bare, or the lower one above the other.
func noIntervals() []series.I {
	list := []series.I{from(1, 0), from(0, -1), from(1, -1), from(-1, -2), from(2, 1), from(math.MaxInt64, math.MinInt64),
		{Lo: small(1, -api.MaxExp)}, {Hi: small(-1, -api.MaxExp)}, {Lo: small(3, -1), Hi: small(11, -3)}, {Lo: small(-11, -3), Hi: small(-3, -1)},
		{Lo: small(1, api.MaxExp), Hi: number(ones(5000), api.MaxExp-5000)}, {Lo: small(1, api.MaxExp), Hi: small(1, -api.MaxExp)},
		{Lo: dyad.D{M: []uint64{1}}, Hi: dyad.D{Neg: true, M: []uint64{0, 0}}}}
	for _, d := range noDyads() {
		list = append(list, series.I{Lo: d, Hi: d}, series.I{Lo: d}, series.I{Hi: d}, series.I{Lo: d, Hi: dyad.Of(1)}, series.I{Lo: dyad.Of(-1), Hi: d},
			series.I{Lo: small(-1, api.MaxExp), Hi: d}, series.I{Lo: d, Hi: small(1, api.MaxExp)})
	}
	return list
}

func TestExample(t *testing.T) {
	got, err := Mul(from(-1, 2), from(3, 4))
	isJust(t, "P15.1: the example", got, err, from(-4, 8))
}

func TestRight(t *testing.T) {
	list := numbers()
	for _, lo := range list {
		for _, hi := range list {
			if got := Right(series.I{Lo: lo, Hi: hi}); got != (worth(lo, deep).Cmp(worth(hi, deep)) <= 0) {
				t.Errorf("P15.1: Right of %s to %s: %t", end(lo), end(hi), got)
			}
		}
	}
	for _, d := range ends() {
		for _, i := range []series.I{{Lo: d, Hi: d}, {Lo: small(-1, api.MaxExp), Hi: small(1, api.MaxExp)}, {Lo: small(-1, -api.MaxExp), Hi: small(1, -api.MaxExp)}} {
			if !Right(i) {
				t.Errorf("P15.1: Right of %s", text(i))
			}
		}
	}
	for _, i := range noIntervals() {
		if Right(i) {
			t.Errorf("P15.1: Right of %s", text(i))
		}
	}
	if !Right(series.I{}) {
		t.Error("P15.1: Right of nothing but 0")
	}
}

func TestAt(t *testing.T) {
	for _, d := range append(numbers(), ends()...) {
		i := At(d)
		isJust(t, "P15.1: At of "+end(d), i, api.OK, series.I{Lo: d, Hi: d})
		if !Right(i) {
			t.Errorf("P15.1: At of %s isn't right", end(d))
		}
	}
	for _, d := range noDyads() {
		if i := At(d); !same(i.Lo, d) || !same(i.Hi, d) || Right(i) {
			t.Errorf("P15.1: At of %s: %s", end(d), text(i))
		}
	}
}

func TestAdd(t *testing.T) {
	all := intervals()
	for _, i := range some(all, 3) {
		for _, k := range some(all, 5) {
			lo := worth(i.Lo, deep)
			hi := worth(i.Hi, deep)
			got, err := Add(i, k)
			is(t, "P15.1: Add of "+text(i)+" and "+text(k), got, err, lo.Add(lo, worth(k.Lo, deep)), hi.Add(hi, worth(k.Hi, deep)), deep)
		}
	}
	cases := [][3]series.I{{from(-3, 4), from(5, 7), from(2, 11)}, {from(1, 2), from(-2, -1), from(-1, 1)}, {from(0, 0), from(3, 9), from(3, 9)},
		{from(math.MinInt64, math.MaxInt64), from(math.MinInt64, math.MaxInt64), {Lo: small(-1, 64), Hi: number(ones(63), 1)}}}
	for _, c := range cases {
		got, err := Add(c[0], c[1])
		isJust(t, "P15.1: Add of "+text(c[0])+" and "+text(c[1]), got, err, c[2])
	}
}

// Sums end where dyad.Add's do, be it for one end alone.
func TestAddLong(t *testing.T) {
	near, far := small(1, 65535), small(1, 65536)
	sum := number(new(big.Int).Add(pow2(65535), big.NewInt(1)), 0)
	for _, mirrored := range []bool{false, true} {
		turn := func(d dyad.D) dyad.D {
			if mirrored {
				return dyad.Minus(d)
			}
			return d
		}
		lay := func(a, b dyad.D) series.I {
			if mirrored {
				return series.I{Lo: turn(b), Hi: turn(a)}
			}
			return series.I{Lo: a, Hi: b}
		}
		got, err := Add(lay(near, near), lay(dyad.Of(1), dyad.Of(1)))
		isJust(t, "P15.1: Add of what just fits", got, err, lay(sum, sum))
		got, err = Add(lay(dyad.Of(1), near), lay(dyad.Of(1), dyad.Of(1)))
		isJust(t, "P15.1: Add of what just fits", got, err, lay(dyad.Of(2), sum))
		for _, c := range [][2]series.I{{lay(far, far), lay(dyad.Of(1), dyad.Of(1))}, {lay(dyad.Of(1), far), lay(dyad.Of(1), dyad.Of(1))},
			{lay(dyad.Of(1), dyad.Of(1)), lay(dyad.Of(0), far)}, {lay(small(1, api.MaxExp), small(1, api.MaxExp)), lay(dyad.Of(0), small(1, api.MaxExp))}} {
			got, err := Add(c[0], c[1])
			refused(t, "P15.1: Add of "+text(c[0])+" and "+text(c[1]), got, err, api.ErrLong)
			got, err = Add(c[1], c[0])
			refused(t, "P15.1: Add of "+text(c[1])+" and "+text(c[0]), got, err, api.ErrLong)
		}
	}
}

// side is whether all of an interval is at least 0 (1), at most 0 (-1), or neither (0).
func side(lo, hi *big.Int) int {
	switch {
	case lo.Sign() >= 0:
		return 1
	case hi.Sign() <= 0:
		return -1
	}
	return 0
}

// bounds is what Mul is to tell of a to b and c to d, by the sides of 0 and not by all four products.
func bounds(a, b, c, d *big.Int) (lo, hi *big.Int) {
	by := func(x, y *big.Int) *big.Int { return new(big.Int).Mul(x, y) }
	switch [2]int{side(a, b), side(c, d)} {
	case [2]int{1, 1}:
		return by(a, c), by(b, d)
	case [2]int{1, -1}:
		return by(b, c), by(a, d)
	case [2]int{1, 0}:
		return by(b, c), by(b, d)
	case [2]int{-1, 1}:
		return by(a, d), by(b, c)
	case [2]int{-1, -1}:
		return by(b, d), by(a, c)
	case [2]int{-1, 0}:
		return by(a, d), by(a, c)
	case [2]int{0, 1}:
		return by(a, d), by(b, d)
	case [2]int{0, -1}:
		return by(b, c), by(a, c)
	}
	return slices.MinFunc([]*big.Int{by(a, d), by(b, c)}, (*big.Int).Cmp), slices.MaxFunc([]*big.Int{by(a, c), by(b, d)}, (*big.Int).Cmp)
}

func TestMul(t *testing.T) {
	all := intervals()
	for _, i := range some(all, 3) {
		for _, k := range some(all, 5) {
			lo, hi := bounds(worth(i.Lo, deep), worth(i.Hi, deep), worth(k.Lo, deep), worth(k.Hi, deep))
			got, err := Mul(i, k)
			is(t, "P15.1: Mul of "+text(i)+" and "+text(k), got, err, lo, hi, 2*deep)
		}
	}
}

func TestMulAsWritten(t *testing.T) {
	cases := [][3]series.I{{from(-3, 4), from(-5, 2), from(-20, 15)}, {from(2, 3), from(5, 7), from(10, 21)}, {from(2, 3), from(-7, -5), from(-21, -10)},
		{from(2, 3), from(-5, 7), from(-15, 21)}, {from(-3, -2), from(-7, -5), from(10, 21)}, {from(-3, -2), from(-5, 7), from(-21, 15)},
		{from(-3, 2), from(-5, 7), from(-21, 15)}, {from(-3, 2), from(-7, 5), from(-15, 21)}, {from(-2, 3), from(-5, 7), from(-15, 21)},
		{from(-2, 3), from(-7, 5), from(-21, 15)}, {from(0, 0), from(-5, 7), from(0, 0)}, {from(0, 3), from(-5, 7), from(-15, 21)},
		{from(-3, 0), from(-5, 7), from(-21, 15)}, {from(-1, 1), from(-1, 1), from(-1, 1)}, {from(0, 2), from(0, 2), from(0, 4)}, {from(0, 2), from(-2, 0), from(-4, 0)}}
	for _, c := range cases {
		for _, k := range []int{0, 1} {
			got, err := Mul(c[k], c[1-k])
			isJust(t, "P15.1: Mul of "+text(c[k])+" and "+text(c[1-k]), got, err, c[2])
		}
	}
}

// Products end where dyad.Mul's do, be it one of the four alone.
func TestMulLong(t *testing.T) {
	half, more := number(ones(32768), 0), number(ones(32769), 0)
	square := number(new(big.Int).Mul(ones(32768), ones(32768)), 0)
	turned, minus := dyad.Minus(more), dyad.Minus(half)
	got, err := Mul(series.I{Lo: minus, Hi: half}, series.I{Lo: minus, Hi: half})
	isJust(t, "P15.1: Mul of what just fits", got, err, series.I{Lo: dyad.Minus(square), Hi: square})
	got, err = Mul(At(small(1, api.MaxExp-1)), from(-2, 2))
	isJust(t, "P15.1: Mul up to the last exponent", got, err, series.I{Lo: small(-1, api.MaxExp), Hi: small(1, api.MaxExp)})
	got, err = Mul(At(small(1, 1-api.MaxExp)), series.I{Lo: small(-1, -1), Hi: small(1, -1)})
	isJust(t, "P15.1: Mul down to the last exponent", got, err, series.I{Lo: small(-1, -api.MaxExp), Hi: small(1, -api.MaxExp)})
	got, err = Mul(At(more), from(0, 0))
	isJust(t, "P15.1: Mul of a long one and 0", got, err, from(0, 0))
	half0, top := series.I{Hi: half}, small(1, api.MaxExp)
	cases := [][2]series.I{{At(half), At(more)}, {half0, series.I{Hi: more}}, {half0, series.I{Lo: turned}}, {series.I{Lo: minus}, series.I{Hi: more}},
		{series.I{Lo: minus}, series.I{Lo: turned}}, {At(top), from(2, 2)}, {At(top), from(-2, 1)}, {At(top), from(0, 2)}, {At(small(-1, api.MaxExp)), from(-2, -1)},
		{At(small(1, -api.MaxExp)), At(small(1, -1))}, {At(small(1, -api.MaxExp)), series.I{Lo: small(-1, -1), Hi: dyad.Of(1)}},
		// Here the ends have room, and a product between them hasn't.
		{series.I{Lo: more, Hi: small(1, 33000)}, series.I{Lo: dyad.Of(1), Hi: more}}}
	for _, c := range cases {
		for _, k := range []int{0, 1} {
			got, err := Mul(c[k], c[1-k])
			refused(t, "P15.1: Mul of "+text(c[k])+" and "+text(c[1-k]), got, err, api.ErrLong)
		}
	}
	for _, c := range []series.I{{Hi: more}, {Lo: turned}, {Lo: turned, Hi: more}, {Lo: small(1, 33000), Hi: number(pow2(33000).SetBit(pow2(33000), 0, 1), 0)}} {
		got, err := Times(c, half)
		refused(t, "P15.1: Times of "+text(c)+" and "+end(half), got, err, api.ErrLong)
	}
}

func TestTimes(t *testing.T) {
	got, err := Times(from(-3, 4), dyad.Of(-2))
	isJust(t, "P15.1: Times of -3 to 4 and -2", got, err, from(-8, 6))
	got, err = Times(from(-3, 4), dyad.D{})
	isJust(t, "P15.1: Times of -3 to 4 and 0", got, err, from(0, 0))
	for _, i := range some(intervals(), 2) {
		for _, d := range numbers() {
			lo, hi := worth(i.Lo, deep), worth(i.Hi, deep)
			by := worth(d, deep)
			lo.Mul(lo, by)
			hi.Mul(hi, by)
			if by.Sign() < 0 {
				lo, hi = hi, lo
			}
			got, err := Times(i, d)
			is(t, "P15.1: Times of "+text(i)+" and "+end(d), got, err, lo, hi, 2*deep)
		}
	}
	for _, d := range noDyads() {
		for _, i := range []series.I{from(-1, 1), {}, At(d)} {
			got, err := Times(i, d)
			refused(t, "P15.1: Times of "+text(i)+" and "+end(d), got, err, api.ErrArg)
		}
	}
}

func TestHas(t *testing.T) {
	for _, i := range intervals() {
		for _, d := range numbers() {
			n := worth(d, deep)
			if got := Has(i, d); got != (worth(i.Lo, deep).Cmp(n) <= 0 && n.Cmp(worth(i.Hi, deep)) <= 0) {
				t.Errorf("P15.1: Has of %s and %s: %t", text(i), end(d), got)
			}
		}
	}
	all := series.I{Lo: number(new(big.Int).Neg(ones(70000)), api.MaxExp), Hi: number(ones(70000), api.MaxExp)}
	for _, d := range ends() {
		if !Has(all, d) || !Has(series.I{Lo: d, Hi: d}, d) {
			t.Errorf("P15.1: Has of all and %s", end(d))
		}
	}
	for _, d := range noDyads() {
		if Has(all, d) || Has(series.I{Lo: d, Hi: d}, d) {
			t.Errorf("P15.1: Has of %s, which can't be bare", end(d))
		}
	}
	for _, i := range noIntervals() {
		for _, d := range []dyad.D{i.Lo, i.Hi, {}, dyad.Of(1), dyad.Of(-1), small(11, -3)} {
			if Has(i, d) {
				t.Errorf("P15.1: Has of %s and %s", text(i), end(d))
			}
		}
	}
}

func TestInside(t *testing.T) {
	all := intervals()
	for _, i := range some(all, 3) {
		for _, k := range some(all, 2) {
			want := worth(k.Lo, deep).Cmp(worth(i.Lo, deep)) <= 0 && worth(i.Hi, deep).Cmp(worth(k.Hi, deep)) <= 0
			if got := Inside(i, k); got != want {
				t.Errorf("P15.1: Inside of %s and %s: %t", text(i), text(k), got)
			}
		}
	}
	if !Inside(from(1, 2), from(1, 3)) || !Inside(from(2, 3), from(1, 3)) || !Inside(from(1, 3), from(1, 3)) || Inside(from(0, 2), from(1, 3)) || Inside(from(2, 4), from(1, 3)) {
		t.Error("P15.1: Inside as written")
	}
	great := series.I{Lo: small(-1, api.MaxExp), Hi: small(1, api.MaxExp)}
	for _, i := range noIntervals() {
		for _, k := range []series.I{great, from(-1, 1), from(0, 0), i} {
			if Inside(i, k) || Inside(k, i) {
				t.Errorf("P15.1: Inside of %s and %s", text(i), text(k))
			}
		}
	}
}

func TestWide(t *testing.T) {
	for _, i := range intervals() {
		got, err := Wide(i)
		want := worth(i.Hi, deep)
		want.Sub(want, worth(i.Lo, deep))
		if err != api.OK || !isBareDyad(got) || worth(got, deep).Cmp(want) != 0 {
			t.Errorf("P15.1: Wide of %s: %s, %d", text(i), end(got), err)
		}
	}
	cases := []struct {
		i    series.I
		wide dyad.D
		err  api.Errno
	}{
		{from(-3, 4), dyad.Of(7), api.OK}, {from(3, 4), dyad.Of(1), api.OK}, {from(-4, -3), dyad.Of(1), api.OK}, {from(5, 5), dyad.D{}, api.OK},
		{series.I{Lo: small(1, api.MaxExp), Hi: small(1, api.MaxExp)}, dyad.D{}, api.OK}, {series.I{Hi: small(1, api.MaxExp)}, small(1, api.MaxExp), api.OK},
		{series.I{Lo: dyad.Of(1), Hi: small(1, 65535)}, number(ones(65535), 0), api.OK}, {series.I{Lo: dyad.Of(1), Hi: small(1, 65536)}, dyad.D{}, api.ErrLong},
		{series.I{Lo: small(-1, 65536), Hi: dyad.Of(-1)}, dyad.D{}, api.ErrLong}, {series.I{Lo: small(-1, api.MaxExp), Hi: small(1, api.MaxExp)}, dyad.D{}, api.ErrLong},
		{series.I{Lo: small(-1, -api.MaxExp), Hi: dyad.Of(1)}, dyad.D{}, api.ErrLong},
	}
	for _, c := range cases {
		if got, err := Wide(c.i); err != c.err || !same(got, c.wide) {
			t.Errorf("P15.1: Wide of %s: %s, %d", text(c.i), end(got), err)
		}
	}
}

func TestWrong(t *testing.T) {
	good := []series.I{{}, from(1, 1), from(-3, 4), At(number(ones(66000), 0)), At(small(1, api.MaxExp))}
	bad := noIntervals()
	for _, i := range bad {
		for _, k := range append(good, bad...) {
			for n, pair := range [][2]series.I{{i, k}, {k, i}} {
				what := fmt.Sprintf("%s and %s, %d", text(i), text(k), n)
				sum, err := Add(pair[0], pair[1])
				refused(t, "P15.1: Add of "+what, sum, err, api.ErrArg)
				product, err := Mul(pair[0], pair[1])
				refused(t, "P15.1: Mul of "+what, product, err, api.ErrArg)
			}
		}
		for _, d := range []dyad.D{{}, dyad.Of(1), dyad.Of(-2), i.Lo, i.Hi} {
			product, err := Times(i, d)
			refused(t, "P15.1: Times of "+text(i)+" and "+end(d), product, err, api.ErrArg)
		}
		if wide, err := Wide(i); err != api.ErrArg || !isNought(wide) {
			t.Errorf("P15.1: Wide of %s: %s, %d", text(i), end(wide), err)
		}
		for _, bits := range []int{-1, 0, 1, 53, 4096, 4097} {
			short, err := Short(i, bits)
			refused(t, fmt.Sprintf("P15.2: Short of %s to %d bits", text(i), bits), short, err, api.ErrArg)
		}
	}
}
