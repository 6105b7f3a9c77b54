package quo

import (
	"fmt"
	"math"
	"math/big"
	"slices"
	"testing"

	"planimeter/api"
	"planimeter/nat"
	"planimeter/prod"
)

const full = math.MaxUint64

// toBig is a number by math/big, which the tests hold the package against.
func toBig(a []uint64) *big.Int {
	sum := new(big.Int)
	for i := len(a) - 1; i >= 0; i-- {
		sum.Lsh(sum, 64)
		sum.Or(sum, new(big.Int).SetUint64(a[i]))
	}
	return sum
}

// fromBig is the bare list of a number of math/big.
func fromBig(n *big.Int) []uint64 {
	rest := new(big.Int).Set(n)
	low := new(big.Int)
	mask := new(big.Int).SetUint64(full)
	var list []uint64
	for rest.Sign() > 0 {
		list = append(list, low.And(rest, mask).Uint64())
		rest.Rsh(rest, 64)
	}
	return list
}

// samples are edges first, then numbers of a fixed rule, bare and not.
func samples() [][]uint64 {
	list := [][]uint64{
		nil, {}, {0}, {0, 0, 0},
		{1}, {1, 0, 0}, {2}, {3}, {5}, {17}, {6, 0}, {full}, {full, 0}, {full - 1}, {1 << 63}, {1<<63 + 1}, {1<<32 - 1}, {1 << 32},
		{0, 1}, {1, 1}, {0, 1, 0}, {full, 1}, {0, 1 << 63}, {1, 1 << 63}, {full, 1 << 63}, {full, 1<<63 - 1}, {0, 6},
		{full, full}, {full, full, 0}, {full - 1, full}, {0, full}, {0, full - 1}, {0, 0, 1}, {1, 0, 1}, {full, 0, 1 << 63},
		{0, 0, 1 << 63}, {full, full, 1 << 63}, {0, full, full}, {full - 1, full, full}, {0, 0, 0, 1 << 63}, {0, full - 1, 1 << 63},
		{full, full, full}, {full, full, full, full, full, full, full}, {0, 0, 12, 0, 4, 0, 0}, {0, 0, 0, 0, 1 << 62},
	}
	return append(list, rolled(30, 8)...)
}

// rolled are n numbers of a fixed rule, of less than limbs limbs.
func rolled(n, limbs int) [][]uint64 {
	var list [][]uint64
	state := uint64(3)
	for i := range n {
		number := make([]uint64, i%limbs)
		for j := range number {
			state = state*6364136223846793005 + 1442695040888963407
			number[j] = state ^ state>>29
		}
		list = append(list, number)
	}
	return list
}

// ofBits is a number with just so many bits, all of them 1.
func ofBits(n int) []uint64 {
	one := big.NewInt(1)
	return fromBig(new(big.Int).Sub(new(big.Int).Lsh(one, uint(n)), one))
}

// told holds an answer without an error against the bare list that was awaited.
func told(t *testing.T, what string, got []uint64, err api.Errno, want []uint64) {
	t.Helper()
	if err != api.OK || !slices.Equal(got, want) {
		t.Errorf("%s: %v, %d, not %v", what, short(got), err, short(want))
	}
}

// short spares the reader the thousand limbs of a long list.
func short(a []uint64) string {
	if len(a) > 12 {
		return fmt.Sprintf("%v.. (%d limbs)", a[:12], len(a))
	}
	return fmt.Sprint(a)
}

// isNought is whether a list is one of the number 0.
func isNought(a []uint64) bool { return toBig(a).Sign() == 0 }

// divided holds Div and Up against math/big.
func divided(t *testing.T, a, b []uint64) {
	t.Helper()
	what := fmt.Sprintf("of %s and %s", short(a), short(b))
	wantQuotient, wantRest := new(big.Int).QuoRem(toBig(a), toBig(b), new(big.Int))
	quotient, rest, err := Div(a, b)
	told(t, "P3.1: the quotient "+what, quotient, err, fromBig(wantQuotient))
	told(t, "P3.1: the rest "+what, rest, err, fromBig(wantRest))
	if wantRest.Sign() > 0 {
		wantQuotient.Add(wantQuotient, big.NewInt(1))
	}
	up, err := Up(a, b)
	told(t, "P3.1: Up "+what, up, err, fromBig(wantQuotient))
}

func TestExample(t *testing.T) {
	quotient, rest, err := Div([]uint64{17}, []uint64{5})
	told(t, "P3.1: the example's quotient", quotient, err, []uint64{3})
	told(t, "P3.1: the example's rest", rest, err, []uint64{2})
	up, err := Up([]uint64{17}, []uint64{5})
	told(t, "P3.1: the example's Up", up, err, []uint64{4})
}

func TestSmall(t *testing.T) {
	for _, a := range append(samples(), ofBits(65536), ofBits(65537), ofBits(200000)) {
		for _, n := range []uint64{1, 2, 3, 7, 10, 1 << 32, 1<<63 - 1, 1 << 63, 1<<63 + 1, full - 1, full} {
			want, wantRest := new(big.Int).QuoRem(toBig(a), new(big.Int).SetUint64(n), new(big.Int))
			got, rest, err := Small(a, n)
			told(t, fmt.Sprintf("P3.1: Small of %s and %d", short(a), n), got, err, fromBig(want))
			if rest != wantRest.Uint64() {
				t.Errorf("P3.1: Small of %s and %d: rest %d, not %d", short(a), n, rest, wantRest)
			}
		}
	}
}

func TestDivAndUp(t *testing.T) {
	for _, a := range samples() {
		for _, b := range samples() {
			if !isNought(b) {
				divided(t, a, b)
			}
		}
	}
}

// The divisor's lower limbs are full and its top one is small: guesses by the top limb are too great, once and twice.
func TestGuessesThatArePutRight(t *testing.T) {
	for _, top := range []uint64{1, 2, 3, 1 << 31, 1 << 62, 1 << 63, 1<<63 + 1, full} {
		for _, low := range []uint64{0, 1, 1 << 63, full - 1, full} {
			b := []uint64{low, low, top}
			for _, digit := range []uint64{1, 2, 1<<63 - 1, 1 << 63, full - 1, full} {
				product := new(big.Int).Mul(toBig(b), toBig([]uint64{digit, digit}))
				for _, more := range []int64{-2, -1, 0, 1, 2} {
					divided(t, fromBig(new(big.Int).Add(product, big.NewInt(more))), b)
				}
			}
			for _, upper := range rolled(40, 7) {
				divided(t, append(slices.Clone(upper), 0, low, low, top-1), b)
				divided(t, append(slices.Clone(upper), low-1, low, top), b)
			}
		}
	}
}

func TestNoLimit(t *testing.T) {
	for _, bits := range [][2]int{{65536, 65536}, {65537, 1}, {65537, 65}, {65600, 32768}, {131073, 65537}, {65537, 131073}, {200000, 130}} {
		divided(t, ofBits(bits[0]), ofBits(bits[1]))
		divided(t, nat.Add(ofBits(bits[0]), nat.Of(1)), append(ofBits(bits[1]), 0, 0))
	}
	b := nat.Add(ofBits(70000), nat.Of(2))
	got := Gcd(fromBig(new(big.Int).Mul(toBig(b), big.NewInt(35))), fromBig(new(big.Int).Mul(toBig(b), big.NewInt(21))))
	told(t, "P3.2: Gcd of long ones", got, api.OK, fromBig(new(big.Int).Mul(toBig(b), big.NewInt(7))))
}

func TestByNought(t *testing.T) {
	for _, a := range append(samples(), ofBits(70000)) {
		if quotient, rest, err := Small(a, 0); err != api.ErrArg || len(quotient) != 0 || rest != 0 {
			t.Errorf("P3.1: Small of %s and 0: %v, %d, %d", short(a), quotient, rest, err)
		}
		for _, nought := range [][]uint64{nil, {}, {0}, make([]uint64, 9)} {
			if quotient, rest, err := Div(a, nought); err != api.ErrArg || len(quotient) != 0 || len(rest) != 0 {
				t.Errorf("P3.1: Div of %s and 0: %v, %v, %d", short(a), quotient, rest, err)
			}
			if up, err := Up(a, nought); err != api.ErrArg || len(up) != 0 {
				t.Errorf("P3.1: Up of %s and 0: %v, %d", short(a), up, err)
			}
		}
	}
}

func TestUpCarries(t *testing.T) {
	// The quotient is all ones: the one above it has a limb more.
	up, err := Up([]uint64{full, full, 1}, []uint64{2})
	told(t, "P3.1: Up to a limb more", up, err, []uint64{0, 0, 1})
}

func TestGcd(t *testing.T) {
	for _, a := range samples() {
		for _, b := range samples() {
			want := fromBig(new(big.Int).GCD(nil, nil, toBig(a), toBig(b)))
			told(t, fmt.Sprintf("P3.2: Gcd of %v and %v", a, b), Gcd(a, b), api.OK, want)
		}
	}
}

func TestGcdOfMultiples(t *testing.T) {
	for i, common := range samples() {
		a := fromBig(new(big.Int).Mul(toBig(common), toBig(samples()[(i*7+3)%40])))
		b := fromBig(new(big.Int).Mul(toBig(common), toBig(samples()[(i*11+5)%40])))
		want := fromBig(new(big.Int).GCD(nil, nil, toBig(a), toBig(b)))
		told(t, fmt.Sprintf("P3.2: Gcd of multiples of %v", common), Gcd(a, b), api.OK, want)
	}
}

func TestGcdOfNought(t *testing.T) {
	for _, nought := range [][]uint64{nil, {}, {0}, {0, 0, 0}} {
		for _, a := range samples() {
			told(t, fmt.Sprintf("P3.2: Gcd of %v and 0", a), Gcd(a, nought), api.OK, fromBig(toBig(a)))
			told(t, fmt.Sprintf("P3.2: Gcd of 0 and %v", a), Gcd(nought, a), api.OK, fromBig(toBig(a)))
		}
	}
}

func TestItFollows(t *testing.T) {
	for _, a := range samples() {
		for _, b := range samples() {
			quotient, rest, err := Div(a, b)
			if err != api.OK {
				continue
			}
			product, err := prod.Mul(quotient, b)
			told(t, fmt.Sprintf("P3.3: quotient times b, and the rest, of %v and %v", a, b), nat.Add(product, rest), err, nat.Bare(a))
			if nat.Cmp(rest, b) >= 0 {
				t.Errorf("P3.3: Div of %v and %v leaves %v", a, b, rest)
			}
		}
	}
}

// calls are all of the package, with the lists that each one tells.
func calls(a, b []uint64, n uint64) map[string][][]uint64 {
	small, _, _ := Small(a, n)
	quotient, rest, _ := Div(a, b)
	same, none, _ := Div(a, a)
	up, _ := Up(a, b)
	return map[string][][]uint64{"Small": {small}, "Div": {quotient, rest}, "Div by itself": {same, none},
		"Up": {up}, "Gcd": {Gcd(a, b)}, "Gcd of one": {Gcd(a, a)}}
}

// roomy is a with spare room behind it, which no call may write to or hand out.
func roomy(a []uint64) (list, all []uint64) {
	all = append(slices.Clone(a), 77, 77)
	return all[:len(a)], all
}

// spoil writes over all that a list reaches.
func spoil(list []uint64) {
	list = list[:cap(list)]
	for i := range list {
		list[i] ^= full
	}
}

func TestWhatIsHandedInStays(t *testing.T) {
	for _, a := range samples() {
		for _, b := range samples() {
			listA, allA := roomy(a)
			listB, allB := roomy(b)
			keptA, keptB := slices.Clone(allA), slices.Clone(allB)
			for what, lists := range calls(listA, listB, uint64(len(b))) {
				for i, list := range lists {
					rest := slices.Clone(lists[i+1:])
					for j := range rest {
						rest[j] = slices.Clone(rest[j])
					}
					spoil(list)
					if !slices.Equal(allA, keptA) || !slices.Equal(allB, keptB) {
						t.Fatalf("R4: %s of %v and %v changes or shares what is handed in", what, a, b)
					}
					if !slices.EqualFunc(rest, lists[i+1:], slices.Equal) {
						t.Fatalf("R4: %s of %v and %v: two answers share memory", what, a, b)
					}
				}
			}
		}
	}
}
