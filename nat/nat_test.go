package nat

import (
	"fmt"
	"math"
	"math/big"
	"slices"
	"testing"

	"planimeter/api"
)

const full = math.MaxUint64

// toBig is a number by math/big, which the tests hold the package against.
func toBig(a []uint64) *big.Int {
	sum := new(big.Int)
	for i := len(a) - 1; i >= 0; i-- {
		sum.Lsh(sum, 64)
		sum.Or(sum, new(big.Int).SetUint64(a[i]))
	}
	return sum
}

// fromBig is the bare list of a number of math/big.
func fromBig(n *big.Int) []uint64 {
	rest := new(big.Int).Set(n)
	low := new(big.Int)
	mask := new(big.Int).SetUint64(full)
	var list []uint64
	for rest.Sign() > 0 {
		list = append(list, low.And(rest, mask).Uint64())
		rest.Rsh(rest, 64)
	}
	return list
}

// samples are edges first, then numbers of a fixed rule, bare and not.
func samples() [][]uint64 {
	list := [][]uint64{
		nil, {}, {0}, {0, 0, 0},
		{1}, {1, 0}, {2}, {5}, {6, 0, 0}, {full}, {full, 0}, {1 << 63}, {1<<63 - 1},
		{0, 1}, {1, 1}, {0, 1, 0}, {full, 1}, {5, 1}, {0, 1 << 63}, {1, 1 << 63}, {1, 6}, {0, 6},
		{full, full}, {full, full, 0}, {full - 1, full}, {0, full}, {0, 0, 1}, {1, 0, 1}, {0, 0, 1 << 63},
		{full, full, full}, {0, 0, 0, 1, 0}, {full, full, full, full}, {0, 0, 12, 0, 4, 0, 0},
	}
	state := uint64(1)
	for n := range 24 {
		number := make([]uint64, n%6)
		for i := range number {
			state = state*6364136223846793005 + 1442695040888963407
			number[i] = state ^ state>>29
		}
		list = append(list, number)
	}
	return list
}

// ofBits is a number with just so many bits, all of them 1.
func ofBits(n int) []uint64 {
	one := big.NewInt(1)
	return fromBig(new(big.Int).Sub(new(big.Int).Lsh(one, uint(n)), one))
}

// same is whether a list that was told is the bare one that was awaited.
func same(t *testing.T, what string, got, want []uint64) {
	t.Helper()
	if !slices.Equal(got, want) {
		t.Errorf("%s: %v, not %v", what, got, want)
	}
}

func TestBare(t *testing.T) {
	same(t, "P1.1: Bare of 0", Bare([]uint64{0, 0}), nil)
	same(t, "P1.1: Bare of nil", Bare(nil), nil)
	same(t, "P1.1: Bare of an inner 0", Bare([]uint64{0, 7, 0, 3, 0, 0}), []uint64{0, 7, 0, 3})
	for _, a := range samples() {
		same(t, fmt.Sprintf("P1.1: Bare of %v", a), Bare(a), fromBig(toBig(a)))
	}
}

func TestOfAndSmall(t *testing.T) {
	same(t, "P1.1: Of 0", Of(0), nil)
	for _, n := range []uint64{1, 2, 1 << 63, full} {
		same(t, "P1.1: Of", Of(n), []uint64{n})
		if m, ok := Small(Of(n)); m != n || !ok {
			t.Errorf("P1.1: Small of %d: %d, %v", n, m, ok)
		}
	}
	cases := []struct {
		a  []uint64
		n  uint64
		ok bool
	}{
		{nil, 0, true}, {[]uint64{}, 0, true}, {[]uint64{0, 0}, 0, true},
		{[]uint64{9, 0, 0}, 9, true}, {[]uint64{full, 0}, full, true},
		{[]uint64{0, 1}, 0, false}, {[]uint64{7, 1}, 0, false}, {[]uint64{7, 0, 1, 0}, 0, false},
	}
	for _, c := range cases {
		if n, ok := Small(c.a); n != c.n || ok != c.ok {
			t.Errorf("P1.1: Small of %v: %d, %v", c.a, n, ok)
		}
	}
}

func TestCmp(t *testing.T) {
	if Cmp([]uint64{5, 1}, []uint64{9, 0, 0}) != 1 || Cmp([]uint64{9, 1}, []uint64{5, 2}) != -1 || Cmp(nil, []uint64{0}) != 0 {
		t.Error("P1.1: Cmp")
	}
	for _, a := range samples() {
		for _, b := range samples() {
			if c := Cmp(a, b); c != toBig(a).Cmp(toBig(b)) {
				t.Errorf("P1.1: Cmp of %v and %v: %d", a, b, c)
			}
		}
	}
}

func TestAdd(t *testing.T) {
	same(t, "P1.1: a carry through all", Add([]uint64{full, full, full}, []uint64{1}), []uint64{0, 0, 0, 1})
	same(t, "P1.1: a carry that stops", Add([]uint64{1, 0}, []uint64{full, full, 3}), []uint64{0, 0, 4})
	same(t, "P1.1: nil and nil", Add(nil, nil), nil)
	for _, a := range samples() {
		for _, b := range samples() {
			want := fromBig(new(big.Int).Add(toBig(a), toBig(b)))
			same(t, fmt.Sprintf("P1.1: Add of %v and %v", a, b), Add(a, b), want)
		}
	}
}

func TestSub(t *testing.T) {
	for _, a := range samples() {
		for _, b := range samples() {
			got, err := Sub(a, b)
			want := new(big.Int).Sub(toBig(a), toBig(b))
			if want.Sign() < 0 {
				if err != api.ErrArg || len(got) != 0 {
					t.Errorf("P1.1: Sub of %v and %v: %v, %d", a, b, got, err)
				}
				continue
			}
			if err != api.OK {
				t.Errorf("P1.1: Sub of %v and %v: %d", a, b, err)
			}
			same(t, fmt.Sprintf("P1.1: Sub of %v and %v", a, b), got, fromBig(want))
		}
	}
}

func TestSubEdges(t *testing.T) {
	left, err := Sub([]uint64{0, 0, 0, 1}, []uint64{1, 0})
	if err != api.OK {
		t.Errorf("P1.1: Sub: %d", err)
	}
	same(t, "P1.1: a borrow through all", left, []uint64{full, full, full})
	if left, err := Sub([]uint64{7}, []uint64{7, 0}); err != api.OK || len(left) != 0 {
		t.Errorf("P1.1: Sub of the same: %v, %d", left, err)
	}
	if left, err := Sub([]uint64{full, 0}, []uint64{0, 1}); err != api.ErrArg || len(left) != 0 {
		t.Errorf("P1.1: Sub of a less one: %v, %d", left, err)
	}
	if left, err := Sub(nil, []uint64{1}); err != api.ErrArg || len(left) != 0 {
		t.Errorf("P1.1: Sub of nil: %v, %d", left, err)
	}
}

// shifts holds those that turn at limbs, at the limit and at the ends of int.
func shifts() []int {
	return []int{0, 1, 2, 31, 63, 64, 65, 127, 128, 129, 191, 192, 200, 255, 256, 320, 1000, 4096,
		65535, 65536, 65537, math.MaxInt32, math.MaxInt - 1, math.MaxInt}
}

func TestShl(t *testing.T) {
	for _, a := range samples() {
		for _, n := range shifts() {
			got, err := Shl(a, n)
			number := toBig(a)
			if number.Sign() > 0 && n > api.MaxBits-number.BitLen() {
				if err != api.ErrLong || len(got) != 0 {
					t.Errorf("P1.2: Shl of %v by %d: %v, %d", a, n, got, err)
				}
				continue
			}
			if err != api.OK {
				t.Errorf("P1.2: Shl of %v by %d: %d", a, n, err)
			}
			if number.Sign() > 0 {
				number.Lsh(number, uint(n))
			}
			same(t, fmt.Sprintf("P1.2: Shl of %v by %d", a, n), got, fromBig(number))
		}
	}
}

func TestShlBelowNought(t *testing.T) {
	for _, n := range []int{-1, -64, math.MinInt + 1, math.MinInt} {
		for _, a := range [][]uint64{nil, {0}, {1}, {full, 1}, ofBits(api.MaxBits + 1)} {
			if got, err := Shl(a, n); err != api.ErrArg || len(got) != 0 {
				t.Errorf("P1.2: Shl by %d: %v, %d", n, got, err)
			}
		}
	}
}

func TestShlLimit(t *testing.T) {
	cases := []struct {
		bits, n int
		err     api.Errno
	}{
		{1, 65535, api.OK}, {1, 65536, api.ErrLong},
		{64, 65472, api.OK}, {64, 65473, api.ErrLong},
		{65, 65471, api.OK}, {65, 65472, api.ErrLong},
		{65535, 1, api.OK}, {65535, 2, api.ErrLong},
		{65536, 0, api.OK}, {65536, 1, api.ErrLong},
		{65537, 0, api.ErrLong}, {65537, math.MaxInt, api.ErrLong}, {80000, 0, api.ErrLong},
	}
	for _, c := range cases {
		a := ofBits(c.bits)
		got, err := Shl(append(slices.Clone(a), 0, 0), c.n)
		if err != c.err {
			t.Errorf("P1.2: Shl of %d bits by %d: %d", c.bits, c.n, err)
		}
		var want []uint64
		if c.err == api.OK {
			want = fromBig(new(big.Int).Lsh(toBig(a), uint(c.n)))
		}
		if !slices.Equal(got, want) {
			t.Errorf("P1.2: Shl of %d bits by %d: another number", c.bits, c.n)
		}
	}
	for _, a := range [][]uint64{nil, {}, {0, 0}} {
		if got, err := Shl(a, math.MaxInt); err != api.OK || len(got) != 0 {
			t.Errorf("P1.2: Shl of 0: %v, %d", got, err)
		}
	}
	if got, err := Shl(make([]uint64, 1025), 1); err != api.OK || len(got) != 0 {
		t.Errorf("P1.2: Shl of a long 0: %v, %d", got, err)
	}
}

func TestShr(t *testing.T) {
	if got, rest := Shr([]uint64{5}, 1); !rest || !slices.Equal(got, []uint64{2}) {
		t.Errorf("P1.2: Shr of 5 by 1: %v, %v", got, rest)
	}
	for _, a := range append(samples(), ofBits(api.MaxBits+1)) {
		for _, n := range append(shifts(), -1, -64, math.MinInt) {
			got, rest := Shr(a, n)
			number := toBig(a)
			by := uint(min(max(n, 0), 1<<20))
			want := new(big.Int).Rsh(number, by)
			if wantRest := new(big.Int).Lsh(want, by).Cmp(number) != 0; rest != wantRest {
				t.Errorf("P1.2: Shr of %v by %d: rest %v", a, n, rest)
			}
			same(t, fmt.Sprintf("P1.2: Shr of %v by %d", a, n), got, fromBig(want))
		}
	}
}

func TestBitsLowOdd(t *testing.T) {
	for _, a := range append(samples(), ofBits(api.MaxBits), ofBits(api.MaxBits+1)) {
		number := toBig(a)
		if n := Bits(a); n != number.BitLen() {
			t.Errorf("P1.2: Bits of %v: %d", a, n)
		}
		if n := Low(a); n != int(number.TrailingZeroBits()) {
			t.Errorf("P1.2: Low of %v: %d", a, n)
		}
		if odd := Odd(a); odd != (number.Bit(0) == 1) {
			t.Errorf("P1.2: Odd of %v: %v", a, odd)
		}
	}
}

func TestAddedAndTakenOff(t *testing.T) {
	for _, a := range samples() {
		for _, b := range samples() {
			left, err := Sub(Add(a, b), b)
			if err != api.OK {
				t.Errorf("P1.3: %v and %v: %d", a, b, err)
			}
			same(t, fmt.Sprintf("P1.3: %v and %v", a, b), left, Bare(a))
		}
	}
}

func TestShiftedAndBack(t *testing.T) {
	for _, a := range samples() {
		for _, n := range shifts() {
			moved, err := Shl(a, n)
			if err != api.OK {
				continue
			}
			back, rest := Shr(moved, n)
			if rest {
				t.Errorf("P1.3: %v by %d: a rest", a, n)
			}
			same(t, fmt.Sprintf("P1.3: %v by %d", a, n), back, Bare(a))
		}
	}
}

// calls are all that take lists, with the list that each one tells.
func calls(a, b []uint64, n int) map[string][]uint64 {
	Small(a)
	Cmp(a, b)
	Bits(a)
	Low(a)
	Odd(a)
	less, _ := Sub(a, b)
	left, _ := Shl(a, n)
	right, _ := Shr(a, n)
	return map[string][]uint64{"Bare": Bare(a), "Add": Add(a, b), "Sub": less, "Shl": left, "Shr": right}
}

// roomy is a with spare room behind it, which no call may write to or hand out.
func roomy(a []uint64) (list, all []uint64) {
	all = append(slices.Clone(a), 77, 77)
	return all[:len(a)], all
}

func TestWhatIsHandedInStays(t *testing.T) {
	for _, a := range samples() {
		for _, b := range samples() {
			for _, n := range []int{math.MinInt, 0, 1, 64, 100, 65536} {
				listA, allA := roomy(a)
				listB, allB := roomy(b)
				keptA, keptB := slices.Clone(allA), slices.Clone(allB)
				for what, told := range calls(listA, listB, n) {
					told = told[:cap(told)]
					for i := range told {
						told[i] ^= full
					}
					if !slices.Equal(allA, keptA) || !slices.Equal(allB, keptB) {
						t.Fatalf("R4: %s of %v and %v by %d changes or shares what is handed in", what, a, b, n)
					}
				}
			}
		}
	}
}

func TestBothArgumentsTheSameList(t *testing.T) {
	a := []uint64{full, full, 1}
	same(t, "P1.1: Add of a and a", Add(a, a), []uint64{full - 1, full, 3})
	if left, err := Sub(a, a); err != api.OK || len(left) != 0 {
		t.Errorf("P1.1: Sub of a and a: %v, %d", left, err)
	}
	if c := Cmp(a, a); c != 0 {
		t.Errorf("P1.1: Cmp of a and a: %d", c)
	}
}

func TestAnswersShareNothing(t *testing.T) {
	first := Of(7)
	first[0] = 9
	same(t, "R4: Of", Of(7), []uint64{7})
}
