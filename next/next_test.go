package next

import (
	"fmt"
	"math"
	"math/big"
	"slices"
	"testing"

	"planimeter/api"
	"planimeter/dyad"
	"planimeter/float"
)

const full = math.MaxUint64

// deep is how far down all samples are whole.
const deep = 1500

// toBig is a list as a number of math/big, which the tests hold the package against.
func toBig(a []uint64) *big.Int {
	sum := new(big.Int)
	for i := len(a) - 1; i >= 0; i-- {
		sum.Lsh(sum, 64)
		sum.Or(sum, new(big.Int).SetUint64(a[i]))
	}
	return sum
}

// sizeOf is d without its sign as a number of 2^-deep; it mustn't reach below.
func sizeOf(d dyad.D) *big.Int {
	n := toBig(d.M)
	return n.Lsh(n, uint(d.E+deep))
}

// worth is what bits without a sign are worth as a number of 2^-deep; infinity is the power behind the greatest number.
func worth(b uint64) *big.Int {
	if b == float.Inf {
		return new(big.Int).Lsh(big.NewInt(1), 1024+deep)
	}
	f := new(big.Float).SetPrec(3000).SetFloat64(math.Float64frombits(b))
	n, accuracy := f.SetMantExp(f, deep).Int(nil)
	if accuracy != big.Exact {
		panic("the test's own number isn't exact")
	}
	return n
}

// twice is the middle of a size and the next one, times two: so that it is whole wherever they are.
func twice(size uint64) *big.Int {
	return new(big.Int).Add(worth(size), worth(size+1))
}

// floorOf is the greatest size, up to infinity's, that isn't worth more than n: searched for, not reckoned.
func floorOf(n *big.Int) uint64 {
	low, above := uint64(0), float.Inf+1
	for above-low > 1 {
		middle := low + (above-low)/2
		if worth(middle).Cmp(n) <= 0 {
			low = middle
		} else {
			above = middle
		}
	}
	return low
}

// one is a dyad of one limb.
func one(neg bool, m uint64, e int) dyad.D {
	return dyad.D{Neg: neg, M: []uint64{m}, E: e}
}

// short spares the reader the hundred limbs of a long list.
func short(d dyad.D) string {
	if len(d.M) > 6 {
		return fmt.Sprintf("{%v %v.. (%d limbs) %d}", d.Neg, d.M[:6], len(d.M), d.E)
	}
	return fmt.Sprint(d)
}

// nought is whether d is all nought, as it is beside a false.
func nought(d dyad.D) bool {
	return !d.Neg && len(d.M) == 0 && d.E == 0
}

// same is whether two dyads are told alike.
func same(a, b dyad.D) bool {
	return a.Neg == b.Neg && a.E == b.E && slices.Equal(a.M, b.M)
}

// bare is whether d is, as all that is told must be.
func bare(d dyad.D) bool {
	told, err := dyad.Bare(d)
	return err == api.OK && same(told, d)
}

// sizes are finite bits without a sign: edges of each exponent, and fractions of a fixed rule.
func sizes() []uint64 {
	list := []uint64{0, 1, 2, 3, 4, 5, 6, 7, 1<<51 - 1, 1 << 51, 1<<52 - 2, 1<<52 - 1, 1 << 52, 1<<52 + 1, 1<<53 - 1, 1 << 53, 1<<53 + 1, float.Max - 1, float.Max, float.One - 1, float.One, float.One + 1}
	state := uint64(5)
	for exponent := range uint64(2047) {
		state = state*6364136223846793005 + 1442695040888963407
		for _, fraction := range []uint64{0, 1, 1<<52 - 1, 1 << 51, (state ^ state>>29) >> 12} {
			list = append(list, exponent<<52|fraction)
		}
	}
	return list
}

// finite are the sizes with both signs.
func finite() []uint64 {
	list := sizes()
	for i := len(list) - 1; i >= 0; i-- {
		list = append(list, list[i]|1<<63)
	}
	return list
}

// others are bits that are worth no number.
func others() []uint64 {
	var list []uint64
	for _, size := range []uint64{float.Inf, float.Inf + 1, float.NaN - 1, float.NaN, float.NaN + 1, 0x7FF4000000000000, 1<<63 - 1} {
		list = append(list, size, size|1<<63)
	}
	return list
}

func TestExample(t *testing.T) {
	if d, ok := Middle(float.One); !ok || !same(d, one(false, 1<<53+1, -53)) {
		t.Errorf("P8.1: Middle of 1: %s, %v", short(d), ok)
	}
}

// The edges, written out: noughts, the least and the greatest numbers, and where exponents change.
func TestUpAndDownAtTheEdges(t *testing.T) {
	const sign = 1 << 63
	for _, c := range []struct{ b, up, down uint64 }{
		{0, 1, sign | 1},
		{sign, 1, sign | 1},
		{1, 2, 0},
		{sign | 1, sign, sign | 2},
		{1<<52 - 1, 1 << 52, 1<<52 - 2},
		{1 << 52, 1<<52 + 1, 1<<52 - 1},
		{sign | 1<<52, sign | 1<<52 - 1, sign | 1<<52 + 1},
		{0x3FEFFFFFFFFFFFFF, 0x3FF0000000000000, 0x3FEFFFFFFFFFFFFE},
		{0x3FF0000000000000, 0x3FF0000000000001, 0x3FEFFFFFFFFFFFFF},
		{0xBFF0000000000000, 0xBFEFFFFFFFFFFFFF, 0xBFF0000000000001},
		{0x7FEFFFFFFFFFFFFF, 0x7FF0000000000000, 0x7FEFFFFFFFFFFFFE},
		{0xFFEFFFFFFFFFFFFF, 0xFFEFFFFFFFFFFFFE, 0xFFF0000000000000},
	} {
		if up, ok := Up(c.b); up != c.up || !ok {
			t.Errorf("P8.1: Up of %#x: %#x, %v, not %#x", c.b, up, ok, c.up)
		}
		if down, ok := Down(c.b); down != c.down || !ok {
			t.Errorf("P8.1: Down of %#x: %#x, %v, not %#x", c.b, down, ok, c.down)
		}
	}
}

func TestUpAndDown(t *testing.T) {
	for _, b := range finite() {
		x := math.Float64frombits(b)
		up, ok := Up(b)
		if !ok || math.Float64frombits(up) != math.Nextafter(x, math.Inf(1)) {
			t.Errorf("P8.1: Up of %#x: %#x, %v", b, up, ok)
		}
		down, ok := Down(b)
		if !ok || math.Float64frombits(down) != math.Nextafter(x, math.Inf(-1)) {
			t.Errorf("P8.1: Down of %#x: %#x, %v", b, down, ok)
		}
	}
}

// What is stepped to is stepped back from, but at noughts; of infinity no step is told.
func TestUpAndDownGoBack(t *testing.T) {
	for _, b := range finite() {
		if b&^float.Sign == 0 {
			continue
		}
		if up, _ := Up(b); up != float.Inf {
			if back, ok := Down(up); back != b || !ok {
				t.Errorf("P8.4: Down of Up of %#x: %#x, %v", b, back, ok)
			}
		}
		if down, _ := Down(b); down != float.Sign|float.Inf {
			if back, ok := Up(down); back != b || !ok {
				t.Errorf("P8.4: Up of Down of %#x: %#x, %v", b, back, ok)
			}
		}
	}
}

func TestWhatIsNoNumber(t *testing.T) {
	for _, b := range others() {
		if up, ok := Up(b); up != 0 || ok {
			t.Errorf("P8.1: Up of %#x: %#x, %v", b, up, ok)
		}
		if down, ok := Down(b); down != 0 || ok {
			t.Errorf("P8.1: Down of %#x: %#x, %v", b, down, ok)
		}
		if d, ok := Middle(b); !nought(d) || ok {
			t.Errorf("P8.1: Middle of %#x: %s, %v", b, short(d), ok)
		}
	}
	// Beside is of no nought either.
	for _, b := range append(others(), 0, float.Sign) {
		if low, high, ok := Beside(b); !nought(low) || !nought(high) || ok {
			t.Errorf("P8.2: Beside of %#x: %s, %s, %v", b, short(low), short(high), ok)
		}
	}
}

// middled holds a dyad against the middle of a size and the next one.
func middled(t *testing.T, what string, d dyad.D, neg bool, size uint64) {
	t.Helper()
	n := sizeOf(d)
	if !bare(d) || d.Neg != neg || n.Lsh(n, 1).Cmp(twice(size)) != 0 {
		t.Errorf("%s: %s", what, short(d))
	}
}

func TestMiddle(t *testing.T) {
	for _, b := range finite() {
		d, ok := Middle(b)
		if !ok {
			t.Errorf("P8.1: Middle of %#x: false", b)
			continue
		}
		middled(t, fmt.Sprintf("P8.1: Middle of %#x", b), d, b>>63 == 1, b&^float.Sign)
	}
}

// The edges, written out: a nought's sign stays, and behind the greatest number is 2^1024.
func TestMiddleAtTheEdges(t *testing.T) {
	for _, c := range []struct {
		b uint64
		m uint64
		e int
	}{
		{0, 1, -1075}, {1, 3, -1075}, {2, 5, -1075}, {1<<52 - 1, 1<<53 - 1, -1075}, {1 << 52, 1<<53 + 1, -1075}, {1 << 53, 1<<53 + 1, -1074}, {float.Max, 1<<54 - 1, 970}, {float.Inf - 1<<52, 1<<53 + 1, 970},
	} {
		for _, neg := range []bool{false, true} {
			b := c.b
			if neg {
				b |= float.Sign
			}
			if d, ok := Middle(b); !ok || !same(d, one(neg, c.m, c.e)) {
				t.Errorf("P8.1: Middle of %#x: %s, %v", b, short(d), ok)
			}
		}
	}
}

func TestBeside(t *testing.T) {
	for _, b := range finite() {
		size := b &^ float.Sign
		if size == 0 {
			continue
		}
		low, high, ok := Beside(b)
		if !ok {
			t.Errorf("P8.2: Beside of %#x: false", b)
			continue
		}
		middled(t, fmt.Sprintf("P8.2: Beside of %#x, low", b), low, false, size-1)
		middled(t, fmt.Sprintf("P8.2: Beside of %#x, high", b), high, false, size)
	}
}

// Around a power of two the one below it is half as far away as the one above it.
func TestBesideAtTheEdges(t *testing.T) {
	for _, c := range []struct {
		b         uint64
		low, high dyad.D
	}{
		{1, one(false, 1, -1075), one(false, 3, -1075)},
		{1 << 52, one(false, 1<<53-1, -1075), one(false, 1<<53+1, -1075)},
		{1 << 53, one(false, 1<<54-1, -1075), one(false, 1<<53+1, -1074)},
		{float.One, one(false, 1<<54-1, -54), one(false, 1<<53+1, -53)},
		{float.Max, one(false, 1<<54-3, 970), one(false, 1<<54-1, 970)},
	} {
		for _, b := range []uint64{c.b, c.b | float.Sign} {
			if low, high, ok := Beside(b); !ok || !same(low, c.low) || !same(high, c.high) {
				t.Errorf("P8.2: Beside of %#x: %s, %s, %v", b, short(low), short(high), ok)
			}
		}
	}
}

// asked holds Break and Between of both signs against a search for the sizes on either side.
func asked(t *testing.T, m []uint64, e int) {
	t.Helper()
	n := sizeOf(dyad.D{M: m, E: e})
	low := floorOf(n)
	high := low
	just := worth(low).Cmp(n) == 0
	if !just && low != float.Inf {
		high++
	}
	is := just || low != float.Inf && twice(low).Cmp(n.Lsh(n, 1)) == 0
	for _, neg := range []bool{false, true} {
		d := dyad.D{Neg: neg, M: m, E: e}
		if got := Break(d); got != is {
			t.Errorf("P8.2: Break of %s: %v", short(d), got)
		}
		lies(t, d, low, high)
	}
}

// lies holds an answer of Between against the one that was awaited.
func lies(t *testing.T, d dyad.D, low, high uint64) {
	t.Helper()
	if gotLow, gotHigh, ok := Between(d); gotLow != low || gotHigh != high || !ok {
		t.Errorf("P8.3: Between of %s: %#x, %#x, %v, not %#x, %#x", short(d), gotLow, gotHigh, ok, low, high)
	}
}

// Numbers, quarters, halves and three quarters of a unit behind them, with a trace on either side.
func TestBreakAndBetweenAroundTheHalf(t *testing.T) {
	for _, low := range []uint64{1 << 52, 1<<52 + 1, 1<<53 - 2, 1<<53 - 1, 0x15555555555556, 0x15555555555557} {
		for _, unit := range []int{-1074, -1073, -500, -52, 0, 1, 900, 970, 971, 972, 1000} {
			for _, quarter := range []uint64{0, 1, 2, 3} {
				m := low<<2 + quarter
				asked(t, []uint64{m}, unit-2)
				asked(t, []uint64{1, m}, unit-66)
				asked(t, []uint64{full, m - 1}, unit-66)
				asked(t, []uint64{0, m, 0}, unit-66)
			}
		}
	}
}

// Below the normal numbers the unit stays, however few bits are left above it.
func TestBreakAndBetweenOfSubnormalNumbers(t *testing.T) {
	for _, low := range []uint64{0, 1, 2, 3, 4, 5, 6, 7, 1<<51 - 1, 1 << 51, 1<<52 - 2, 1<<52 - 1, 1 << 52, 1<<52 + 1} {
		for quarter := range uint64(4) {
			m := low<<2 + quarter
			asked(t, []uint64{m}, -1076)
			asked(t, []uint64{1, m}, -1076-64)
			if m > 0 {
				asked(t, []uint64{full, m - 1}, -1076-64)
			}
		}
	}
	for e := -1070; e > -1400; e-- {
		asked(t, []uint64{1}, e)
		asked(t, []uint64{3}, e)
		asked(t, []uint64{full}, e-63)
	}
}

// Numbers of a fixed rule, of many lengths, at exponents from below the least number to beyond the greatest.
func TestBreakAndBetweenOfManyNumbers(t *testing.T) {
	state := uint64(17)
	for e := -1300; e < 1100; e += 7 {
		state = state*6364136223846793005 + 1442695040888963407
		limb := state ^ state>>29 | 1
		asked(t, []uint64{limb}, e)
		for _, bits := range []int{1, 51, 52, 53, 54, 55} {
			asked(t, []uint64{limb>>(64-bits) | 1 | 1<<(bits-1)}, e)
		}
		asked(t, []uint64{limb, limb, limb, 0}, e-190)
	}
}

// Every number and every middle is a breakpoint; what is a trace beside them isn't.
func TestBreakOfMiddles(t *testing.T) {
	for _, b := range finite() {
		number, _ := float.Dyad(b)
		middle, _ := Middle(b)
		for _, d := range []dyad.D{number, middle} {
			if !Break(d) {
				t.Errorf("P8.2: Break of %s, from %#x: false", short(d), b)
			}
			for _, trace := range []dyad.D{one(false, 1, -1200), one(true, 1, -1200), one(true, 1, -1076)} {
				if moved, _ := dyad.Add(d, trace); Break(moved) {
					t.Errorf("P8.2: Break of %s and a trace, from %#x: true", short(d), b)
				}
			}
		}
		lies(t, number, b&^float.Sign, b&^float.Sign)
		lies(t, middle, b&^float.Sign, b&^float.Sign+1)
	}
}

// At 2^1024 the breakpoints end; all that is greater lies at infinity.
func TestTheGreatestBreakpoint(t *testing.T) {
	for _, neg := range []bool{false, true} {
		for _, c := range []struct {
			d  dyad.D
			is bool
		}{
			{one(neg, 1, 1024), true}, {one(neg, 1<<63, 961), true}, {dyad.D{Neg: neg, M: []uint64{0, 0, 4, 0}, E: 894}, true},
			{one(neg, 1, 1025), false}, {one(neg, 3, 1023), false}, {one(neg, 1<<52+1, 972), false}, {one(neg, 1<<53+1, 971), false}, {one(neg, 5, 1024), false},
			{dyad.D{Neg: neg, M: append([]uint64{1}, append(make([]uint64, 15), 1)...), E: 64}, false}, {one(neg, 1, 1<<30), false}, {one(neg, 1<<54-1, 971), false},
		} {
			if is := Break(c.d); is != c.is {
				t.Errorf("P8.2: Break of %s: %v", short(c.d), is)
			}
			lies(t, c.d, float.Inf, float.Inf)
		}
		last := one(neg, 1<<54-1, 970)
		if !Break(last) {
			t.Errorf("P8.2: Break of %s: false", short(last))
		}
		lies(t, last, float.Max, float.Inf)
		lies(t, dyad.D{Neg: neg, M: slices.Repeat([]uint64{full}, 16), E: 0}, float.Max, float.Inf)
		lies(t, one(neg, 1<<53-1, 971), float.Max, float.Max)
	}
}

// 0 is one at every exponent, even one that no other dyad could have.
func TestNoughts(t *testing.T) {
	for _, m := range [][]uint64{nil, {}, {0}, make([]uint64, 200)} {
		for _, e := range []int{0, 7, -5000, 1025, 1 << 30, 1<<30 + 1, -1 << 31, math.MaxInt, math.MinInt} {
			for _, neg := range []bool{false, true} {
				d := dyad.D{Neg: neg, M: m, E: e}
				if !Break(d) {
					t.Errorf("P8.2: Break of %s: false", short(d))
				}
				lies(t, d, 0, 0)
			}
		}
	}
}

// Dyads at the ends of what can be bare, and lists longer than any shift up takes.
func TestFarOnes(t *testing.T) {
	long := slices.Repeat([]uint64{full}, 1100)
	lone := append(append([]uint64{1}, make([]uint64, 1999)...), 5)
	five := math.Float64bits(5)
	for _, neg := range []bool{false, true} {
		for _, c := range []struct {
			d         dyad.D
			is        bool
			low, high uint64
		}{
			{one(neg, 1, -1<<30), false, 0, 1},
			{one(neg, 2, -1<<30-1), false, 0, 1},
			{one(neg, full, -1<<30), false, 0, 1},
			{dyad.D{Neg: neg, M: long, E: -1 << 30}, false, 0, 1},
			{dyad.D{Neg: neg, M: long, E: -70400 - 1074}, false, 0, 1},
			{dyad.D{Neg: neg, M: long, E: -70400}, false, float.One - 1, float.One},
			{dyad.D{Neg: neg, M: long, E: 1 << 30}, false, float.Inf, float.Inf},
			{dyad.D{Neg: neg, M: lone, E: -128000}, false, five, five + 1},
			{dyad.D{Neg: neg, M: append(make([]uint64, 2000), 5, 0), E: -128000}, true, five, five},
			{dyad.D{Neg: neg, M: append(make([]uint64, 2000), 5<<51+1, 0), E: -128051}, true, five, five + 1},
		} {
			if is := Break(c.d); is != c.is {
				t.Errorf("P8.2: Break of %s: %v", short(c.d), is)
			}
			lies(t, c.d, c.low, c.high)
		}
	}
}

func TestWhatCannotBeBare(t *testing.T) {
	for _, d := range []dyad.D{
		one(false, 1, 1<<30+1), one(true, 2, 1<<30), one(false, 1, -1<<30-1), one(true, 2, -1<<30-2),
		one(false, 1, 1<<31), one(true, 1, -1<<31), one(false, 3, math.MaxInt), one(true, 1<<63, math.MinInt), {M: []uint64{0, 1}, E: 1<<30 - 63},
	} {
		if Break(d) {
			t.Errorf("P8.2: Break of %s: true", short(d))
		}
		if low, high, ok := Between(d); low != 0 || high != 0 || ok {
			t.Errorf("P8.3: Between of %s: %#x, %#x, %v", short(d), low, high, ok)
		}
	}
}

// Halves and doubles of breakpoints are such, and of others aren't; the ends are where units stay or numbers stop.
func TestHalvesAndDoubles(t *testing.T) {
	for _, b := range finite() {
		exponent := b >> 52 & 2047
		if exponent < 3 || exponent > 2044 {
			continue
		}
		number, _ := float.Dyad(b)
		middle, _ := Middle(b)
		quarter, _ := dyad.Add(number, one(number.Neg, 1, int(exponent)-1077))
		for i, d := range []dyad.D{number, middle, quarter} {
			for _, n := range []int{-1, 0, 1} {
				moved, _ := dyad.Scale(d, n)
				if is := Break(moved); is != (i < 2) {
					t.Errorf("P8.4: Break of %s, times 2^%d: %v", short(d), n, is)
				}
			}
		}
	}
}

// spoil writes over all that a list reaches.
func spoil(list []uint64) {
	list = list[:cap(list)]
	for i := range list {
		list[i] ^= full
	}
}

func TestWhatIsHandedInStays(t *testing.T) {
	for _, m := range [][]uint64{{1}, {6}, {0, 0, 3, 0}, {full, full, full}, {0, 1 << 63}, {0, 0}} {
		for _, e := range []int{0, -64, -1100, 1000, 1 << 30, math.MaxInt, math.MinInt} {
			all := append(slices.Clone(m), 77, 77)
			kept := slices.Clone(all)
			d := dyad.D{Neg: true, M: all[:len(m)], E: e}
			Break(d)
			Between(d)
			if !slices.Equal(all, kept) {
				t.Errorf("R4: what is handed in changes: %v, %d", m, e)
			}
		}
	}
}

// What is told is the caller's: no two lists share memory, and nothing is kept.
func TestWhatIsTold(t *testing.T) {
	for _, b := range []uint64{1, 2, 1 << 52, float.One, float.One | float.Sign, float.Max} {
		middle, _ := Middle(b)
		low, high, _ := Beside(b)
		want := slices.Clone(high.M)
		spoil(middle.M)
		spoil(low.M)
		if !slices.Equal(high.M, want) {
			t.Errorf("R4: Beside of %#x shares memory", b)
		}
		spoil(high.M)
		if _, again, _ := Beside(b); !slices.Equal(again.M, want) {
			t.Errorf("R6: Beside of %#x keeps what it told", b)
		}
	}
}
