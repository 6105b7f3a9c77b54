package float

import (
	"fmt"
	"math"
	"math/big"
	"slices"
	"testing"

	"planimeter/api"
	"planimeter/dyad"
)

const full = math.MaxUint64

// toBig is a list as a number of math/big, which the tests hold the package against.
func toBig(a []uint64) *big.Int {
	sum := new(big.Int)
	for i := len(a) - 1; i >= 0; i-- {
		sum.Lsh(sum, 64)
		sum.Or(sum, new(big.Int).SetUint64(a[i]))
	}
	return sum
}

// unit1074 is how far down all that bits are worth is whole.
const unit1074 = 1074

// worth is what finite bits are worth by math/big, as a number of 2^-1074.
func worth(b uint64) *big.Int {
	f := new(big.Float).SetPrec(3000).SetFloat64(math.Float64frombits(b))
	f.SetMantExp(f, unit1074)
	n, accuracy := f.Int(nil)
	if accuracy != big.Exact {
		panic("the test's own number isn't exact")
	}
	return n
}

// worthOf is a dyad as a number of 2^-1074; it mustn't reach below.
func worthOf(d dyad.D) *big.Int {
	n := toBig(d.M)
	n.Lsh(n, uint(d.E+unit1074))
	if d.Neg {
		n.Neg(n)
	}
	return n
}

// finite are bits of kinds 0 to 2 and of both signs: edges of each exponent, fractions of a fixed rule, whole numbers and their neighbours.
func finite() []uint64 {
	list := []uint64{0, 1, 2, 3, 1<<51 - 1, 1 << 51, 1<<52 - 1, 1 << 52, 1<<52 + 1, 1<<53 - 1, 1 << 53, Max, Max - 1, One, One - 1, One + 1}
	state := uint64(7)
	for exponent := range uint64(2047) {
		state = state*6364136223846793005 + 1442695040888963407
		fraction := (state ^ state>>29) & (1<<52 - 1)
		for _, f := range []uint64{0, 1, 1<<52 - 1, 1 << 51, fraction, fraction << (exponent % 52) & (1<<52 - 1)} {
			list = append(list, exponent<<52|f)
		}
	}
	for n := range 70 {
		for _, part := range []float64{0, 0.25, 0.5} {
			list = append(list, math.Float64bits(float64(n)+part), math.Float64bits(math.Ldexp(1, n)+part), math.Float64bits(math.Ldexp(1, n)-1+part))
		}
	}
	for i := len(list) - 1; i >= 0; i-- {
		list = append(list, list[i]|1<<63)
	}
	return list
}

// others are bits that are worth no number.
func others() []uint64 {
	list := []uint64{Inf, NaN, Inf + 1, NaN - 1, NaN + 1, 1<<63 - 1, 0x7FF4000000000000, 0x7FFC000000000000, 0x7FF0000100000000}
	for i := len(list) - 1; i >= 0; i-- {
		list = append(list, list[i]|1<<63)
	}
	return list
}

func TestConstants(t *testing.T) {
	for i, kind := range []int{Zero, Subnormal, Normal, Infinite, Quiet, Signalling} {
		if kind != i {
			t.Errorf("P6.1: kind %d is %d", i, kind)
		}
	}
	for _, c := range []struct {
		bits uint64
		want uint64
	}{
		{Inf, math.Float64bits(math.Inf(1))}, {Max, math.Float64bits(math.MaxFloat64)}, {One, math.Float64bits(1)},
		{Sign, math.Float64bits(math.Copysign(0, -1))}, {NaN, 0x7FF8000000000000},
	} {
		if c.bits != c.want {
			t.Errorf("P6.1: %#x, not %#x", c.bits, c.want)
		}
	}
}

// Each kind with its first and its last bits, of both signs.
func TestKind(t *testing.T) {
	for _, c := range []struct {
		bits uint64
		kind int
	}{
		{0, Zero},
		{1, Subnormal}, {2, Subnormal}, {1 << 51, Subnormal}, {0x000FFFFFFFFFFFFF, Subnormal},
		{0x0010000000000000, Normal}, {0x0010000000000001, Normal}, {0x0018000000000000, Normal}, {One, Normal}, {0x4000000000000000, Normal}, {0x7FE0000000000000, Normal}, {0x7FEFFFFFFFFFFFFF, Normal},
		{0x7FF0000000000000, Infinite},
		{0x7FF0000000000001, Signalling}, {0x7FF4000000000000, Signalling}, {0x7FF0000100000000, Signalling}, {0x7FF7FFFFFFFFFFFF, Signalling},
		{0x7FF8000000000000, Quiet}, {0x7FF8000000000001, Quiet}, {0x7FFC000000000000, Quiet}, {0x7FFFFFFFFFFFFFFF, Quiet},
	} {
		for _, sign := range []uint64{0, 1 << 63} {
			b := c.bits | sign
			if kind := Kind(b); kind != c.kind {
				t.Errorf("P6.1: Kind of %#x: %d, not %d", b, kind, c.kind)
			}
			if neg := Neg(b); neg != (sign != 0) {
				t.Errorf("P6.1: Neg of %#x: %v", b, neg)
			}
			if finite := Finite(b); finite != (c.kind <= Normal) {
				t.Errorf("P6.1: Finite of %#x: %v", b, finite)
			}
		}
	}
}

// kindOf is the kind as the library's own float64 tells it.
func kindOf(x float64) int {
	switch {
	case x == 0:
		return Zero
	case math.Abs(x) < 0x1p-1022:
		return Subnormal
	}
	return Normal
}

func TestKindOfNumbers(t *testing.T) {
	for _, b := range finite() {
		x := math.Float64frombits(b)
		if kind := Kind(b); kind != kindOf(x) {
			t.Errorf("P6.1: Kind of %#x: %d", b, kind)
		}
		if !Finite(b) {
			t.Errorf("P6.1: Finite of %#x: false", b)
		}
		if neg := Neg(b); neg != math.Signbit(x) {
			t.Errorf("P6.1: Neg of %#x: %v", b, neg)
		}
	}
}

func TestExample(t *testing.T) {
	d, ok := Dyad(0x3FF8000000000000)
	if !ok || d.Neg || !slices.Equal(d.M, []uint64{3}) || d.E != -1 {
		t.Errorf("P6.1: the example: %v, %v", d, ok)
	}
}

func TestDyad(t *testing.T) {
	for _, b := range finite() {
		d, ok := Dyad(b)
		if !ok || worthOf(d).Cmp(worth(b)) != 0 {
			t.Errorf("P6.1: Dyad of %#x: %v, %v", b, d, ok)
		}
		bare, err := dyad.Bare(d)
		if err != api.OK || bare.Neg != d.Neg || bare.E != d.E || !slices.Equal(bare.M, d.M) {
			t.Errorf("P6.1: Dyad of %#x: %v isn't bare", b, d)
		}
	}
}

func TestDyadOfNoughts(t *testing.T) {
	for _, b := range []uint64{0, 1 << 63} {
		d, ok := Dyad(b)
		if !ok || d.Neg || len(d.M) != 0 || d.E != 0 {
			t.Errorf("P6.1: Dyad of %#x: %v, %v", b, d, ok)
		}
	}
}

func TestWhatIsNoNumber(t *testing.T) {
	for _, b := range others() {
		if Finite(b) {
			t.Errorf("P6.1: Finite of %#x: true", b)
		}
		if d, ok := Dyad(b); ok || d.Neg || len(d.M) != 0 || d.E != 0 {
			t.Errorf("P6.1: Dyad of %#x: %v, %v", b, d, ok)
		}
		if whole, odd := Whole(b); whole || odd {
			t.Errorf("P6.2: Whole of %#x: %v, %v", b, whole, odd)
		}
		if odd, exp, ok := Parts(b); odd != 0 || exp != 0 || ok {
			t.Errorf("P6.2: Parts of %#x: %d, %d, %v", b, odd, exp, ok)
		}
	}
}

func TestExactOfDyad(t *testing.T) {
	for _, b := range finite() {
		d, _ := Dyad(b)
		want := b
		if b == Sign {
			want = 0
		}
		if got, ok := Exact(d); !ok || got != want {
			t.Errorf("P6.3: Exact of Dyad of %#x: %#x, %v", b, got, ok)
		}
	}
}

// one is a dyad of one limb.
func one(neg bool, m uint64, e int) dyad.D {
	return dyad.D{Neg: neg, M: []uint64{m}, E: e}
}

// told holds an answer of Exact against the one that was awaited.
func told(t *testing.T, d dyad.D, want uint64, wantOk bool) {
	t.Helper()
	if got, ok := Exact(d); got != want || ok != wantOk {
		t.Errorf("P6.2: Exact of {%v %d limbs %d}: %#x, %v, not %#x, %v", d.Neg, len(d.M), d.E, got, ok, want, wantOk)
	}
}

// What is at the ends of what numbers reach, and what is a step beyond them.
func TestExactAtTheEdges(t *testing.T) {
	for _, c := range []struct {
		m    uint64
		e    int
		want uint64
		ok   bool
	}{
		{1, 0, One, true}, {3, -1, 0x3FF8000000000000, true}, {1, 1, 0x4000000000000000, true},
		{1, -1074, 1, true}, {3, -1074, 3, true}, {1<<52 - 1, -1074, 1<<52 - 1, true}, {1<<52 + 1, -1074, 1<<52 + 1, true}, {1<<53 - 1, -1074, 1<<53 - 1, true},
		{1, -1023, 1 << 51, true}, {1, -1022, 1 << 52, true}, {1<<53 - 1, -1073, 1<<54 - 1 - 1<<52, true},
		{1, -1075, 0, false}, {3, -1075, 0, false}, {1<<53 - 1, -1075, 0, false}, {1<<52 + 1, -1075, 0, false}, {1, -2000, 0, false},
		{1, 1023, 0x7FE0000000000000, true}, {1<<53 - 1, 971, Max, true}, {1<<53 - 3, 971, Max - 2, true}, {1<<52 - 1, 972, Max - 1, true},
		{1, 1024, 0, false}, {1<<53 - 1, 972, 0, false}, {1<<54 - 1, 970, 0, false}, {3, 1023, 0, false}, {1<<52 + 1, 972, 0, false},
		{1<<53 - 1, 0, math.Float64bits(1<<53 - 1), true}, {1<<53 + 1, 0, 0, false}, {1<<53 + 1, -5, 0, false}, {1<<54 - 1, 0, 0, false}, {full, 0, 0, false}, {1<<63 + 1, 0, 0, false},
	} {
		told(t, one(false, c.m, c.e), c.want, c.ok)
		want := c.want
		if c.ok {
			want |= 1 << 63
		}
		told(t, one(true, c.m, c.e), want, c.ok)
	}
}

// The same worth, written with noughts below and above.
func TestExactOfWhatIsNotBare(t *testing.T) {
	told(t, one(false, 2, -1075), 1, true)
	told(t, one(true, 1<<63, -1137), 1|1<<63, true)
	told(t, one(false, 2, -1076), 0, false)
	told(t, one(false, 1<<53+2, 0), math.Float64bits(1<<53+2), true)
	told(t, one(true, 2, 1022), 0xFFE0000000000000, true)
	told(t, one(false, 2, 1023), 0, false)
	told(t, dyad.D{M: []uint64{0, 0, 3, 0, 0}, E: -129}, 0x3FF8000000000000, true)
	told(t, dyad.D{Neg: true, M: []uint64{0, 1 << 63}, E: 896}, 0xFFE0000000000000, true)
	told(t, dyad.D{M: []uint64{0, 1 << 63}, E: 897}, 0, false)
	told(t, dyad.D{M: []uint64{1 << 63, 1<<52 - 1}, E: -1137}, 1<<53-1, true)
	told(t, dyad.D{M: []uint64{1 << 62, 1<<52 - 1}, E: -1137}, 0, false)
	told(t, dyad.D{M: append(make([]uint64, 5000), 5), E: -320000}, math.Float64bits(5), true)
	for _, b := range finite() {
		d, _ := Dyad(b)
		if len(d.M) == 0 {
			continue
		}
		for _, more := range []int{1, 9, 11} {
			told(t, one(d.Neg, d.M[0]<<more, d.E-more), b, true)
		}
		told(t, dyad.D{Neg: d.Neg, M: []uint64{0, d.M[0], 0}, E: d.E - 64}, b, true)
	}
}

// A bit more than the fraction holds is beyond it at every exponent.
func TestExactOfTooManyBits(t *testing.T) {
	for e := -1200; e < 1100; e += 7 {
		told(t, one(false, 1<<53+1, e), 0, false)
		told(t, one(true, 1<<63+1, e), 0, false)
		told(t, dyad.D{M: []uint64{1, 1}, E: e}, 0, false)
		told(t, dyad.D{Neg: true, M: append(slices.Repeat([]uint64{full}, 40), 1), E: e}, 0, false)
	}
}

func TestExactOfNoughts(t *testing.T) {
	for _, m := range [][]uint64{nil, {}, {0}, make([]uint64, 300)} {
		for _, e := range []int{0, 5, -5000, 5000, 1<<30 + 1, -1 << 31, math.MaxInt, math.MinInt} {
			told(t, dyad.D{M: m, E: e}, 0, true)
			told(t, dyad.D{Neg: true, M: m, E: e}, 0, true)
		}
	}
}

func TestExactOfFarOnes(t *testing.T) {
	for _, e := range []int{1 << 30, 1<<30 + 1, -1 << 30, -1<<30 - 1, 1 << 31, -1 << 31, math.MaxInt, math.MinInt, math.MaxInt - 63, math.MinInt + 63} {
		for _, m := range [][]uint64{{1}, {2}, {1 << 63}, {full}, {0, 1}, {1<<53 + 1}, slices.Repeat([]uint64{full}, 1100)} {
			told(t, dyad.D{M: m, E: e}, 0, false)
			told(t, dyad.D{Neg: true, M: m, E: e}, 0, false)
		}
	}
}

func TestWhole(t *testing.T) {
	for _, b := range finite() {
		size := math.Abs(math.Float64frombits(b))
		wantWhole, wantOdd := math.Trunc(size) == size, math.Mod(size, 2) == 1
		if whole, odd := Whole(b); whole != wantWhole || odd != wantOdd {
			t.Errorf("P6.2: Whole of %#x: %v, %v", b, whole, odd)
		}
	}
}

func TestWholeAtTheEdges(t *testing.T) {
	for _, c := range []struct {
		x          float64
		whole, odd bool
	}{
		{0, true, false}, {math.Copysign(0, -1), true, false}, {1, true, true}, {-1, true, true}, {2, true, false}, {-3, true, true},
		{0.5, false, false}, {1.5, false, false}, {-2.5, false, false}, {5e-324, false, false}, {0x1p-1022, false, false}, {1 - 0x1p-53, false, false}, {1 + 0x1p-52, false, false},
		{1<<51 + 0.5, false, false}, {1<<52 - 0.5, false, false}, {1<<52 - 1, true, true}, {1 << 52, true, false}, {1<<52 + 1, true, true}, {1<<53 - 1, true, true}, {1 << 53, true, false}, {1<<53 + 2, true, false}, {math.MaxFloat64, true, false},
	} {
		if whole, odd := Whole(math.Float64bits(c.x)); whole != c.whole || odd != c.odd {
			t.Errorf("P6.2: Whole of %g: %v, %v", c.x, whole, odd)
		}
	}
}

func TestParts(t *testing.T) {
	for _, b := range finite() {
		odd, exp, ok := Parts(b)
		d, _ := Dyad(b)
		what := fmt.Sprintf("P6.2: Parts of %#x: %d, %d, %v", b, odd, exp, ok)
		if len(d.M) == 0 {
			if odd != 0 || exp != 0 || ok {
				t.Error(what)
			}
			continue
		}
		if !ok || odd&1 != 1 || d.M[0] != odd || d.E != exp || worthOf(one(b>>63 == 1, odd, exp)).Cmp(worth(b)) != 0 {
			t.Error(what)
		}
	}
}

func TestPartsAtTheEdges(t *testing.T) {
	for _, c := range []struct {
		bits uint64
		odd  uint64
		exp  int
	}{
		{1, 1, -1074}, {1 | Sign, 1, -1074}, {1<<52 - 1, 1<<52 - 1, -1074}, {1 << 51, 1, -1023}, {1 << 52, 1, -1022}, {1<<52 + 1, 1<<52 + 1, -1074},
		{One, 1, 0}, {math.Float64bits(-6), 3, 1}, {math.Float64bits(0.75), 3, -2}, {Max, 1<<53 - 1, 971}, {0x7FE0000000000000, 1, 1023},
	} {
		if odd, exp, ok := Parts(c.bits); odd != c.odd || exp != c.exp || !ok {
			t.Errorf("P6.2: Parts of %#x: %d, %d, %v", c.bits, odd, exp, ok)
		}
	}
}

// What Exact is handed stays, with the spare room behind its list; what Dyad tells is the caller's.
func TestWhatIsHandedInStays(t *testing.T) {
	for _, m := range [][]uint64{nil, {0}, {1}, {12}, {6, 0, 0}, {0, 3}, {full, full}} {
		for _, e := range []int{0, -64, -1075, 1 << 30, math.MaxInt} {
			all := append(slices.Clone(m), 77, 77)
			kept := slices.Clone(all)
			Exact(dyad.D{Neg: true, M: all[:len(m)], E: e})
			if !slices.Equal(all, kept) {
				t.Errorf("R4: Exact of %v, %d changes what is handed in", m, e)
			}
		}
	}
	first, _ := Dyad(One)
	first.M[0] = 5
	second, _ := Dyad(One)
	if !slices.Equal(second.M, []uint64{1}) {
		t.Error("R4: two answers of Dyad share a list")
	}
}
