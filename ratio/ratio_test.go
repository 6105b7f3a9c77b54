package ratio

import (
	"fmt"
	"math"
	"math/big"
	"slices"
	"testing"

	"planimeter/api"
	"planimeter/dyad"
)

const full = math.MaxUint64

// toBig is a list as a number of math/big, which the tests hold the package against.
func toBig(a []uint64) *big.Int {
	sum := new(big.Int)
	for i := len(a) - 1; i >= 0; i-- {
		sum.Lsh(sum, 64)
		sum.Or(sum, new(big.Int).SetUint64(a[i]))
	}
	return sum
}

// fromBig is the bare list of a number of math/big.
func fromBig(n *big.Int) []uint64 {
	rest := new(big.Int).Set(n)
	low := new(big.Int)
	mask := new(big.Int).SetUint64(full)
	var list []uint64
	for rest.Sign() > 0 {
		list = append(list, low.And(rest, mask).Uint64())
		rest.Rsh(rest, 64)
	}
	return list
}

// two is 2 to the power n and a little more or less.
func two(n int, more int64) []uint64 {
	power := new(big.Int).Lsh(big.NewInt(1), uint(n))
	return fromBig(power.Add(power, big.NewInt(more)))
}

// one is a dyad of one limb.
func one(neg bool, m uint64, e int) dyad.D {
	return dyad.D{Neg: neg, M: []uint64{m}, E: e}
}

// same holds two dyads against each other part by part.
func same(a, b dyad.D) bool {
	return a.Neg == b.Neg && a.E == b.E && slices.Equal(a.M, b.M)
}

// brief spares the reader the thousand limbs of a long list.
func brief(d dyad.D) string {
	if len(d.M) > 6 {
		return fmt.Sprintf("{%v %v.. (%d limbs) %d}", d.Neg, d.M[:6], len(d.M), d.E)
	}
	return fmt.Sprint(d)
}

// fraction is a dyad to the power m as a number of math/big above another; it mustn't be 0 where m is below 0.
func fraction(d dyad.D, m int) *big.Rat {
	numerator := toBig(d.M)
	if d.Neg {
		numerator.Neg(numerator)
	}
	denominator := big.NewInt(1)
	if d.E < 0 {
		denominator.Lsh(denominator, uint(-d.E))
	} else {
		numerator.Lsh(numerator, uint(d.E))
	}
	size := big.NewInt(int64(max(m, -m)))
	numerator.Exp(numerator, size, nil)
	denominator.Exp(denominator, size, nil)
	if m < 0 {
		numerator, denominator = denominator, numerator
	}
	return new(big.Rat).SetFrac(numerator, denominator)
}

// awaited is how two powers are to each other by cross products.
func awaited(x dyad.D, m int, b dyad.D, k int) int {
	return fraction(x, m).Cmp(fraction(b, k))
}

// sizes are numbers above 0: edges first, then numbers of a fixed rule, bare and not.
func sizes() []dyad.D {
	list := []dyad.D{
		one(false, 1, 0), one(false, 1, 1), one(false, 1, -1), one(false, 1, 7), one(false, 1, -7), one(false, 4, -2), one(false, 12, -3),
		one(false, 3, 0), one(false, 5, 0), one(false, 7, 0), one(false, 9, 0), one(false, 3, -1), one(false, 3, -2), one(false, 9, -4), one(false, 27, -6), one(false, 1000, 0),
		one(false, 1<<53+1, -53), one(false, 1<<53-1, -53), one(false, 1<<53-1, -52), one(false, full, -64), one(false, full, 3),
		{M: []uint64{0, 1}, E: -64}, {M: []uint64{1, 1, 0}, E: -64}, {M: []uint64{full, full, 0, 0}, E: -127}, {M: []uint64{0, 0, 12, 0}, E: -130},
	}
	state := uint64(5)
	for i := range 14 {
		number := make([]uint64, 1+i%4)
		for j := range number {
			state = state*6364136223846793005 + 1442695040888963407
			number[j] = state ^ state>>29 | 1<<40
		}
		list = append(list, dyad.D{M: number, E: -64*len(number) + i%5 - 1})
	}
	return list
}

// numbers are sizes of both signs, and noughts.
func numbers() []dyad.D {
	list := []dyad.D{{}, {Neg: true, M: []uint64{0}, E: 5}, {E: math.MinInt}, {M: make([]uint64, 1000), E: math.MaxInt}}
	for _, d := range sizes() {
		list = append(list, d, dyad.D{Neg: !d.Neg, M: d.M, E: d.E})
	}
	return list
}

// tooFar are dyads that can't be bare.
func tooFar() []dyad.D {
	return []dyad.D{
		one(false, 1, 1<<30+1), one(true, 3, 1<<30+1), one(false, 2, 1<<30), one(false, 1, -1<<30-1), one(true, 2, -1<<30-2),
		one(false, 1, 1<<31), one(false, 7, math.MaxInt), one(false, 1, math.MinInt), {M: []uint64{0, 1}, E: 1<<30 - 63},
	}
}

// greatest is as far as an exponent may be from 0 at so many bits, or at so great an exponent of two.
func greatest(n int) int {
	return 60000 / n
}

// extremes are exponents so great that a product with them may go round.
func extremes() []int {
	return []int{math.MaxInt, math.MinInt, math.MaxInt - 1, math.MinInt + 1, 1 << 62, -1 << 62, 1 << 60, 1 << 58, 1 << 40, 1 << 34, 1 << 33, 1 << 32, -1 << 32}
}

func TestExample(t *testing.T) {
	if got, err := Cmp(dyad.Of(2), 10, dyad.Of(1000), 1); got != 1 || err != api.OK {
		t.Errorf("P10.2: the example: %d, %d", got, err)
	}
}

// fits holds Fits against an answer, of the exponent and of its counterpart below 0, which is of the same size.
func fits(t *testing.T, x dyad.D, m int, want bool) {
	t.Helper()
	for _, power := range []int{m, -m} {
		if got := Fits(x, power); got != want {
			t.Errorf("P10.1: Fits of %s and %d: %v", brief(x), power, got)
		}
	}
}

func TestFitsByBits(t *testing.T) {
	for _, n := range []int{1, 2, 3, 7, 53, 54, 64, 65, 128, 1000, 29999, 30000, 30001, 59999, 60000} {
		most := greatest(n)
		for _, m := range [][]uint64{two(n, -1), append(two(n, -1), 0, 0)} {
			for _, neg := range []bool{false, true} {
				x := dyad.D{Neg: neg, M: m}
				fits(t, x, most, true)
				fits(t, x, most+1, false)
				fits(t, x, 0, true)
				fits(t, x, 1, true)
				fits(t, x, 60001, false)
			}
		}
	}
	for _, n := range []int{60001, 60064, 65536, 65537, 200000} {
		fits(t, dyad.D{M: two(n, -1)}, 0, true)
		fits(t, dyad.D{M: two(n, -1)}, 1, false)
	}
}

func TestFitsByExponent(t *testing.T) {
	for _, e := range []int{2, 3, 7, 1000, 1023, 1074, 29999, 30000, 30001, 59999, 60000} {
		most := greatest(e)
		for _, x := range []dyad.D{one(false, 1, e), one(false, 1, -e), one(true, 3, e), one(true, 3, -e)} {
			fits(t, x, most, true)
			fits(t, x, most+1, false)
		}
	}
	for _, e := range []int{60001, 65536, 1 << 29, 1 << 30} {
		for _, x := range []dyad.D{one(false, 1, e), one(false, 1, -e)} {
			fits(t, x, 0, true)
			fits(t, x, 1, false)
		}
	}
}

// The bits and the exponent that count are those of the bare dyad, and each counts by itself.
func TestFitsOfWhatIsNotBare(t *testing.T) {
	fits(t, dyad.D{M: two(64000, 0), E: -64000}, 60000, true)
	fits(t, dyad.D{M: two(64000, 0), E: -64000}, 60001, false)
	fits(t, dyad.D{M: two(64000, 0), E: -4000}, 1, true)
	fits(t, dyad.D{M: two(64000, 0), E: -4001}, 1, true)
	fits(t, dyad.D{M: two(64000, 0), E: -3999}, 1, false)
	fits(t, one(false, 8, 59997), 1, true)
	fits(t, one(false, 8, 59998), 1, false)
	fits(t, one(false, 8, -60003), 1, true)
	fits(t, one(false, 8, -60004), 1, false)
	fits(t, one(false, 2, -1<<30-1), 0, true)
	fits(t, dyad.D{M: two(60000, -1), E: 60000}, 1, true)
	fits(t, dyad.D{M: two(60000, -1), E: -60000}, 1, true)
	fits(t, dyad.D{M: two(60000, -1), E: 60001}, 1, false)
	fits(t, dyad.D{M: two(60001, -1), E: 60000}, 1, false)
}

func TestFitsOfNoughts(t *testing.T) {
	for _, x := range numbers()[:4] {
		for _, m := range append(extremes(), 0, 1, -1, 60000, 60001, -60001) {
			if !Fits(x, m) {
				t.Errorf("P10.1: Fits of 0 (%s) and %d", brief(x), m)
			}
		}
	}
}

// Products that go round would look short: 16 bits times 2^60, an exponent of 2^30 times 2^34.
func TestFitsOfGreatExponents(t *testing.T) {
	for _, m := range extremes() {
		for _, x := range []dyad.D{one(false, 1, 0), one(true, 3, 0), one(false, 1<<15+1, 0), {M: two(64, -1)}, {M: two(127, 1)}, one(false, 1, 2), one(false, 1, 16), one(false, 1, -16), one(false, 1, 1<<30), one(false, 1, -1<<30)} {
			if Fits(x, m) {
				t.Errorf("P10.1: Fits of %s and %d", brief(x), m)
			}
			if got, err := Cmp(x, m, dyad.Of(1), 1); dyad.Sign(x) > 0 && (got != 0 || err != api.ErrLong) {
				t.Errorf("P10.2: Cmp of %s and %d: %d, %d", brief(x), m, got, err)
			}
			if m < 0 {
				continue
			}
			refused(t, x, m, api.ErrLong)
			if got, err := Cmp(dyad.Of(1), 1, x, m); dyad.Sign(x) > 0 && (got != 0 || err != api.ErrLong) {
				t.Errorf("P10.2: Cmp against %s and %d: %d, %d", brief(x), m, got, err)
			}
		}
	}
}

func TestWhatCannotBeBare(t *testing.T) {
	for _, x := range tooFar() {
		for _, m := range append(extremes(), 0, 1, 2, -1, 60001) {
			if Fits(x, m) {
				t.Errorf("P10.1: Fits of %s and %d", brief(x), m)
			}
			refused(t, x, m, api.ErrArg)
			wrong(t, x, m, dyad.Of(3), 2, api.ErrArg)
			wrong(t, dyad.Of(3), 2, x, m, api.ErrArg)
			wrong(t, dyad.Of(3), 60001, x, m, api.ErrArg)
		}
	}
}

// refused holds Pow against an error, beside which all is nought.
func refused(t *testing.T, x dyad.D, m int, want api.Errno) {
	t.Helper()
	if got, err := Pow(x, m); err != want || !same(got, dyad.D{}) {
		t.Errorf("P10.1: Pow of %s and %d: %s, %d, not error %d", brief(x), m, brief(got), err, want)
	}
}

// is holds Pow against the bare dyad that was awaited.
func is(t *testing.T, x dyad.D, m int, want dyad.D) {
	t.Helper()
	if got, err := Pow(x, m); err != api.OK || !same(got, want) {
		t.Errorf("P10.1: Pow of %s and %d: %s, %d, not %s", brief(x), m, brief(got), err, brief(want))
	}
}

func TestPow(t *testing.T) {
	for _, x := range numbers()[4:] {
		for m := range 30 {
			got, err := Pow(x, m)
			bare, other := dyad.Bare(got)
			if err != api.OK || other != api.OK || !same(got, bare) {
				t.Fatalf("P10.1: Pow of %s and %d: %s, %d", brief(x), m, brief(got), err)
			}
			if fraction(got, 1).Cmp(fraction(x, m)) != 0 {
				t.Errorf("P10.1: Pow of %s and %d: %s", brief(x), m, brief(got))
			}
		}
	}
}

func TestPowWrittenOut(t *testing.T) {
	is(t, one(true, 3, 1), 3, one(true, 27, 3))
	is(t, one(true, 3, 1), 4, one(false, 81, 4))
	is(t, one(true, 6, -2), 2, one(false, 9, -2))
	is(t, one(false, 1, -5), 4, one(false, 1, -20))
	is(t, one(true, 1, 0), 59999, one(true, 1, 0))
	is(t, one(true, 1, 0), 60000, one(false, 1, 0))
	is(t, one(false, 8, 0), 20000, one(false, 1, 60000))
	is(t, one(false, 1, -60000), 1, one(false, 1, -60000))
}

func TestPowOfNought(t *testing.T) {
	for _, x := range numbers()[:4] {
		is(t, x, 0, one(false, 1, 0))
		for _, m := range []int{1, 2, 3, 60000, 60001, 1 << 40, math.MaxInt} {
			is(t, x, m, dyad.D{})
		}
		for _, m := range []int{-1, -2, -60001, math.MinInt} {
			refused(t, x, m, api.ErrArg)
		}
	}
}

// 1 of the exponent 0, however long the number is.
func TestPowOfExponentNought(t *testing.T) {
	for _, x := range append(numbers(), one(false, 1, 1<<30), one(true, 3, -1<<30), dyad.D{Neg: true, M: two(200000, -1), E: 9}) {
		is(t, x, 0, one(false, 1, 0))
	}
}

func TestPowBelowNought(t *testing.T) {
	for _, x := range append(numbers(), one(false, 1, 1<<30), dyad.D{M: two(70000, -1)}) {
		for _, m := range []int{-1, -2, -60000, -60001, math.MinInt + 1, math.MinInt} {
			refused(t, x, m, api.ErrArg)
		}
	}
}

func TestPowAtTheLimit(t *testing.T) {
	for _, n := range []int{2, 3, 53, 64, 1000, 20001, 30000, 60000} {
		most := greatest(n)
		x := dyad.D{Neg: true, M: two(n, -1), E: -1}
		number := toBig(x.M)
		is(t, x, most, dyad.D{Neg: most%2 == 1, M: fromBig(number.Exp(number, big.NewInt(int64(most)), nil)), E: -most})
		refused(t, x, most+1, api.ErrLong)
	}
	for _, e := range []int{1, 2, 53, 1074, 30000, 60000, -1, -53, -1074, -60000} {
		most := greatest(max(e, -e))
		is(t, one(false, 1, e), most, one(false, 1, e*most))
		refused(t, one(false, 1, e), most+1, api.ErrLong)
	}
	refused(t, dyad.Of(3), 30001, api.ErrLong)
	refused(t, dyad.Of(1), 60001, api.ErrLong)
	refused(t, one(true, 1, 1<<30), 1, api.ErrLong)
	refused(t, dyad.D{M: two(60001, -1)}, 1, api.ErrLong)
}

// tells holds Cmp against an answer.
func tells(t *testing.T, x dyad.D, m int, b dyad.D, k int, want int) {
	t.Helper()
	if got, err := Cmp(x, m, b, k); err != api.OK || got != want {
		t.Errorf("P10.2: Cmp of %s, %d and %s, %d: %d, %d, not %d", brief(x), m, brief(b), k, got, err, want)
	}
}

// wrong holds Cmp against an error, beside which the answer is 0.
func wrong(t *testing.T, x dyad.D, m int, b dyad.D, k int, want api.Errno) {
	t.Helper()
	if got, err := Cmp(x, m, b, k); err != want || got != 0 {
		t.Errorf("P10.2: Cmp of %s, %d and %s, %d: %d, %d, not error %d", brief(x), m, brief(b), k, got, err, want)
	}
}

func TestCmp(t *testing.T) {
	for _, x := range sizes() {
		for _, b := range sizes() {
			for m := -5; m <= 5; m++ {
				for k := 1; k <= 4; k++ {
					tells(t, x, m, b, k, awaited(x, m, b, k))
				}
			}
		}
	}
}

func TestCmpOfTheSame(t *testing.T) {
	for _, x := range sizes() {
		for k := 1; k <= 7; k++ {
			power, err := Pow(x, 2*k)
			if err != api.OK {
				t.Fatalf("P10.1: Pow of %s: %d", brief(x), err)
			}
			tells(t, x, 2*k, power, 1, 0)
			square, _ := Pow(x, 2)
			tells(t, square, 1, x, 2, 0)
			tells(t, x, 2*k, square, k, 0)
			tells(t, x, 0, dyad.Of(1), k, 0)
		}
	}
	for _, e := range []int{1, -1, 5, -5, 53, -1074, 30000, -60000} {
		most := greatest(max(e, -e))
		tells(t, one(false, 1, e), -most, one(false, 1, -e), most, 0)
		tells(t, one(false, 1, e), -most, one(false, 1, -e*most), 1, 0)
		tells(t, one(false, 1, e), most, one(false, 1, e), most, 0)
	}
}

// Around a power that is the same the answer turns.
func TestCmpBesideTheSame(t *testing.T) {
	for _, x := range sizes() {
		for m := 1; m <= 9; m++ {
			power, _ := Pow(x, m)
			for _, down := range []int{-1, -200, -3000} {
				little, _ := dyad.Scale(one(false, 1, 0), power.E+down)
				more, _ := dyad.Add(power, little)
				less, _ := dyad.Add(power, dyad.Minus(little))
				tells(t, x, m, more, 1, -1)
				if dyad.Sign(less) > 0 {
					tells(t, x, m, less, 1, 1)
				}
			}
		}
	}
}

// Where m is below 0, what the sizes leave open needs every bit of the product, which may have twice as many as a power.
func TestCmpByTheLastBit(t *testing.T) {
	for _, n := range []int{1, 2, 31, 32, 63, 64, 65, 127, 128, 1000, 4096, 20000, 29999, 30000, 32767, 32768, 40000, 59999} {
		above, below := dyad.D{M: two(n, 1), E: -n}, dyad.D{M: two(n, -1), E: -n}
		if n == 1 {
			below = one(false, 1, -1)
		}
		// Their product is 1 less 2^-2n.
		tells(t, above, -1, below, 1, 1)
		tells(t, below, -1, above, 1, 1)
		tells(t, above, -1, above, 1, -1)
		tells(t, below, -1, below, 1, 1)
	}
	for _, n := range []int{1, 2, 21, 32, 64, 100, 1000, 10923, 20000, 29999, 30000} {
		// 2^3n + 1 is the product of 2^n + 1 and 2^2n - 2^n + 1.
		second := new(big.Int).Sub(toBig(two(2*n, 1)), toBig(two(n, 0)))
		x, b := dyad.D{M: two(n, 1), E: -n}, dyad.D{M: fromBig(second), E: -2 * n}
		tells(t, x, -1, b, 1, -1)
		tells(t, b, -1, x, 1, -1)
		// The exponents shared out another way, their sum the same.
		tells(t, dyad.D{M: x.M, E: -3 * n / 2}, -1, dyad.D{M: b.M, E: -3*n + 3*n/2}, 1, -1)
	}
}

// Long numbers whose halves are all ones, or mostly noughts, each against its reciprocal's neighbours.
func TestCmpOfReciprocals(t *testing.T) {
	for _, bits := range []int{60, 64, 130, 3000, 30000, 33000, 59900} {
		for _, number := range [][]uint64{two(bits, -1), two(bits-1, 1), two(bits-1, 12345), two(bits, -12345), fromBig(new(big.Int).Quo(toBig(two(bits+2, 0)), big.NewInt(7)))} {
			x := dyad.D{M: number, E: -bits}
			for _, far := range []int{bits, 59000} {
				// The reciprocal lies between these two, which have so many bits behind the point.
				cut := new(big.Int).Quo(toBig(two(far+bits, 0)), toBig(number))
				low := dyad.D{M: fromBig(cut), E: -far}
				high := dyad.D{M: fromBig(cut.Add(cut, big.NewInt(1))), E: -far}
				tells(t, x, -1, low, 1, 1)
				tells(t, x, -1, high, 1, -1)
			}
		}
	}
}

func TestCmpOfGreatPowers(t *testing.T) {
	little, less := one(false, 1<<53+1, -53), one(false, 1<<53-1, -53)
	tells(t, little, 1000, dyad.Of(1), 1, 1)
	tells(t, little, -1000, dyad.Of(1), 1, -1)
	tells(t, less, 1000, dyad.Of(1), 1, -1)
	tells(t, less, -1000, dyad.Of(1), 1, 1)
	tells(t, little, -1000, less, 1000, 1)
	tells(t, less, -1000, little, 1000, 1)
	tells(t, little, -1111, less, 1111, 1)
	tells(t, little, -1111, less, 1110, -1)
	tells(t, little, -1110, less, 1111, 1)
	tells(t, less, -1111, little, 1111, 1)
	tells(t, less, -1110, little, 1111, -1)
	tells(t, dyad.Of(3), 30000, one(false, 1, 1), 47548, 1)
	tells(t, dyad.Of(3), 30000, one(false, 1, 1), 47549, -1)
	tells(t, dyad.Of(3), -30000, one(false, 1, -1), 47548, -1)
	tells(t, dyad.Of(3), -30000, one(false, 1, -1), 47549, 1)
	tells(t, one(false, 1, 60000), 1, dyad.D{M: two(60000, -1)}, 1, 1)
	tells(t, one(false, 1, 60000), 1, dyad.D{M: two(59999, 1)}, 1, 1)
	tells(t, one(false, 1, 60000), -1, one(false, 1, 60000), 1, -1)
	tells(t, one(false, 1, -60000), -1, one(false, 1, -60000), 1, 1)
	tells(t, dyad.D{M: two(60000, -1), E: 60000}, 1, dyad.D{M: two(60000, -1), E: -60000}, 1, 1)
	tells(t, dyad.D{M: two(60000, -1), E: 60000}, -1, dyad.D{M: two(60000, -1), E: -60000}, 1, -1)
	tells(t, dyad.D{M: two(60000, -1), E: -60000}, -1, dyad.D{M: two(60000, -1), E: -60000}, 1, 1)
	tells(t, dyad.D{M: two(200000, 1), E: 1 << 29}, 0, dyad.Of(1), 60000, 0)
	tells(t, one(false, 1, -1<<30), 0, one(false, 1, -60000), 1, 1)
}

func TestWrongArguments(t *testing.T) {
	unit, three := dyad.Of(1), dyad.Of(3)
	for _, none := range numbers() {
		if dyad.Sign(none) > 0 {
			continue
		}
		for _, m := range []int{0, 1, 2, -1, -2, 60001, math.MinInt} {
			wrong(t, none, m, three, 1, api.ErrArg)
			wrong(t, three, m, none, 1, api.ErrArg)
			wrong(t, none, m, none, 2, api.ErrArg)
		}
	}
	for _, k := range []int{0, -1, -2, -60001, math.MinInt + 1, math.MinInt} {
		for _, m := range []int{0, 1, -1, 60001, math.MaxInt, math.MinInt} {
			wrong(t, three, m, three, k, api.ErrArg)
			wrong(t, unit, m, unit, k, api.ErrArg)
		}
	}
}

func TestCmpOfWhatIsTooLong(t *testing.T) {
	for _, n := range []int{1, 2, 53, 64, 30000, 60000} {
		x, most := dyad.D{M: two(n, -1)}, greatest(n)
		wrong(t, x, most+1, dyad.Of(1), 1, api.ErrLong)
		wrong(t, x, -most-1, dyad.Of(1), 1, api.ErrLong)
		wrong(t, dyad.Of(1), 1, x, most+1, api.ErrLong)
		wrong(t, dyad.Of(1), -1, x, most+1, api.ErrLong)
		tells(t, x, most, dyad.Of(1), 60000, min(n-1, 1))
		tells(t, x, -most, dyad.Of(1), 60000, -min(n-1, 1))
		tells(t, dyad.Of(1), 60000, x, most, -min(n-1, 1))
	}
	wrong(t, one(false, 1, 60001), 1, one(false, 1, 0), 1, api.ErrLong)
	wrong(t, one(false, 1, 0), 1, one(false, 1, -60001), 1, api.ErrLong)
	wrong(t, one(false, 1, 1<<30), 1, one(false, 1, 1<<30), 1, api.ErrLong)
	// Of the power 0 nothing is too long, but the other one may be.
	wrong(t, one(false, 1, 1<<30), 0, one(false, 1, 1<<30), 1, api.ErrLong)
}

// Of a greater b the answer isn't greater.
func TestGreaterIsNotLess(t *testing.T) {
	list := sizes()
	slices.SortFunc(list, dyad.Cmp)
	for _, x := range list {
		for m := -4; m <= 4; m++ {
			for k := 1; k <= 3; k++ {
				last := 1
				for _, b := range list {
					got, err := Cmp(x, m, b, k)
					if err != api.OK || got > last {
						t.Fatalf("P10.3: Cmp of %s, %d and %s, %d: %d, %d, behind %d", brief(x), m, brief(b), k, got, err, last)
					}
					last = got
				}
			}
		}
	}
}

// Both exponents times one number, the answer is the same.
func TestExponentsTimesOneNumber(t *testing.T) {
	for _, x := range sizes() {
		for _, b := range sizes() {
			for _, c := range [][2]int{{1, 1}, {-1, 1}, {3, 2}, {-3, 2}, {0, 1}, {-2, 3}, {5, 4}} {
				want, err := Cmp(x, c[0], b, c[1])
				if err != api.OK {
					t.Fatalf("P10.2: Cmp of %s, %d and %s, %d: error %d", brief(x), c[0], brief(b), c[1], err)
				}
				for _, n := range []int{2, 3, 11} {
					got, err := Cmp(x, c[0]*n, b, c[1]*n)
					if err != api.OK || got != want {
						t.Errorf("P10.3: Cmp of %s and %s, %v times %d: %d, %d, not %d", brief(x), brief(b), c, n, got, err, want)
					}
				}
			}
		}
	}
}

// roomy is a list with spare room behind it, which no call may write to or hand out.
func roomy(a []uint64) (list, all []uint64) {
	all = append(slices.Clone(a), 77, 77)
	return all[:len(a)], all
}

// spoil writes over all that a list reaches.
func spoil(list []uint64) {
	list = list[:cap(list)]
	for i := range list {
		list[i] ^= full
	}
}

func TestWhatIsHandedInStays(t *testing.T) {
	for _, x := range append(numbers(), dyad.D{M: two(59999, 1), E: -59999}) {
		for _, b := range []dyad.D{one(false, 3, -2), {M: []uint64{6, full, 0}, E: -120}, {M: two(59999, -1), E: -59999}} {
			for _, m := range []int{0, 1, 2, -1, -3, 60001, math.MinInt} {
				list, all := roomy(x.M)
				second, allOfSecond := roomy(b.M)
				kept, keptSecond := slices.Clone(all), slices.Clone(allOfSecond)
				first, other := dyad.D{Neg: x.Neg, M: list, E: x.E}, dyad.D{Neg: b.Neg, M: second, E: b.E}
				Fits(first, m)
				Cmp(first, m, other, 1)
				Cmp(first, m, first, 1)
				power, _ := Pow(first, m)
				spoil(power.M)
				if !slices.Equal(all, kept) || !slices.Equal(allOfSecond, keptSecond) {
					t.Fatalf("R4: a call of %s, %d and %s changes or shares what is handed in", brief(x), m, brief(b))
				}
			}
		}
	}
}
