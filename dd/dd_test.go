package dd

import (
	"go/ast"
	"go/parser"
	"go/token"
	"math"
	"math/big"
	"testing"

	"planimeter/float"
)

// exactly has room for every sum and product of two float64 without rounding.
const exactly = 5000

// wide is a finite float64 as a number of math/big, which the tests hold the package against.
func wide(x float64) *big.Float {
	return new(big.Float).SetPrec(exactly).SetFloat64(x)
}

// plus is a sum, rounded once, without the processor where it is of numbers.
func plus(a, b float64) float64 {
	if endless(a) || endless(b) {
		return a + b
	}
	sum, _ := new(big.Float).SetPrec(exactly).Add(wide(a), wide(b)).Float64()
	return sum
}

// minus is a difference, rounded once.
func minus(a, b float64) float64 {
	return plus(a, -b)
}

// times is a product, rounded once.
func times(a, b float64) float64 {
	if endless(a) || endless(b) {
		return float64(a * b)
	}
	product, _ := new(big.Float).SetPrec(exactly).Mul(wide(a), wide(b)).Float64()
	return product
}

// endless is whether x is no number that math/big could take.
func endless(x float64) bool {
	return math.IsInf(x, 0) || math.IsNaN(x)
}

// The chapter's steps, each operation by itself.

func sumOf(a, b float64) Pair {
	s := plus(a, b)
	t := minus(s, a)
	return Pair{s, plus(minus(a, minus(s, t)), minus(b, t))}
}

func quickOf(a, b float64) Pair {
	s := plus(a, b)
	return Pair{s, minus(b, minus(s, a))}
}

func splitOf(a float64) Pair {
	c := times(134217729, a)
	hi := minus(c, minus(c, a))
	return Pair{hi, minus(a, hi)}
}

func prodOf(a, b float64) Pair {
	p := times(a, b)
	x, y := splitOf(a), splitOf(b)
	first := plus(plus(minus(times(x.Hi, y.Hi), p), times(x.Hi, y.Lo)), times(x.Lo, y.Hi))
	return Pair{p, plus(first, times(x.Lo, y.Lo))}
}

func addOf(x, y Pair) Pair {
	s := sumOf(x.Hi, y.Hi)
	return quickOf(s.Hi, plus(s.Lo, plus(x.Lo, y.Lo)))
}

func mulOf(x, y Pair) Pair {
	p := prodOf(x.Hi, y.Hi)
	return quickOf(p.Hi, plus(p.Lo, plus(times(x.Hi, y.Lo), times(x.Lo, y.Hi))))
}

// alike is whether two float64 have the same bits; all NaNs are alike.
func alike(a, b float64) bool {
	if math.IsNaN(a) || math.IsNaN(b) {
		return math.IsNaN(a) && math.IsNaN(b)
	}
	return math.Float64bits(a) == math.Float64bits(b)
}

// same is whether two pairs are alike.
func same(p, q Pair) bool {
	return alike(p.Hi, q.Hi) && alike(p.Lo, q.Lo)
}

// chance is a run of numbers by a fixed rule.
type chance uint64

func (c *chance) next() uint64 {
	*c = *c*6364136223846793005 + 1442695040888963407
	return uint64(*c ^ *c>>29)
}

// laid is a float64 of a field of an exponent and a fraction.
func laid(field, fraction uint64) float64 {
	return math.Float64frombits(field<<52 | fraction&(1<<52-1))
}

// fractions are ones at which halves, ties and carries turn, and some by the fixed rule.
func fractions(c *chance) []uint64 {
	return []uint64{
		0, 1, 2, 1<<52 - 1, 1<<52 - 2, 1 << 51, 1<<51 + 1, 1<<25 - 1, 1 << 25, 1<<25 + 1, 1<<26 - 1, 1 << 26, 1<<26 + 1, 1<<27 - 1, 1 << 27,
		3 << 25, 3<<25 + 1, 3<<25 - 1, 1<<52 - 1<<26, 1<<52 - 1<<26 - 1, 1<<52 - 1<<25, 1<<52 - 1<<25 - 1, 0x5555555555555, 0xAAAAAAAAAAAAA,
		c.next(), c.next(), c.next(), c.next(),
	}
}

// safe are safe numbers of both signs: noughts, the ends of what is safe, and many between them.
func safe() []float64 {
	c := chance(3)
	list := []float64{0, math.Copysign(0, -1)}
	for _, field := range []uint64{423, 424, 475, 476, 700, 900, 969, 970, 971, 996, 1022, 1023, 1024, 1050, 1075, 1076, 1077, 1300, 1571, 1622, 1623} {
		for i, fraction := range fractions(&c) {
			x := laid(field, fraction)
			if i%3 == 1 {
				x = -x
			}
			list = append(list, x)
		}
	}
	return list
}

// risky are finite numbers that aren't safe, and what is no number.
func risky() []float64 {
	list := []float64{math.Inf(1), math.Inf(-1), math.NaN(), math.Float64frombits(0x7FF0000000000001), math.Float64frombits(0xFFF8000000000001)}
	c := chance(5)
	for _, field := range []uint64{0, 1, 2, 30, 52, 53, 54, 105, 106, 107, 400, 422, 1624, 1700, 2018, 2019, 2020, 2044, 2045, 2046} {
		for i, fraction := range []uint64{0, 1, 1<<52 - 1, 1<<51 + 1<<26, c.next(), c.next()} {
			x := laid(field, fraction)
			if i%2 == 1 {
				x = -x
			}
			list = append(list, x)
		}
	}
	return list
}

// some is every step-th item, so that pairs of all kinds stay few enough.
func some(list []float64, step int) []float64 {
	var taken []float64
	for i := 0; i < len(list); i += step {
		taken = append(taken, list[i])
	}
	return taken
}

func TestExample(t *testing.T) {
	if p := Sum(1, 0x1p-60); p.Hi != 1 || p.Lo != 0x1p-60 {
		t.Errorf("P9.2: the example: %v", p)
	}
}

// The edges of what is safe, written out, of both signs.
func TestSafeAtTheEdges(t *testing.T) {
	for _, c := range []struct {
		bits uint64
		safe bool
	}{
		{0, true},
		{1, false}, {1 << 51, false}, {1<<52 - 1, false}, {1 << 52, false}, {1<<52 + 1, false},
		{422 << 52, false}, {423<<52 - 1, false}, {423 << 52, true}, {423<<52 + 1, true}, {424<<52 - 1, true},
		{float.One, true}, {float.One - 1, true}, {float.One + 1, true},
		{1623 << 52, true}, {1624<<52 - 1, true}, {1624 << 52, false}, {1624<<52 + 1, false},
		{float.Max, false}, {float.Inf, false}, {float.Inf + 1, false}, {float.NaN - 1, false}, {float.NaN, false}, {float.NaN + 1, false}, {1<<63 - 1, false},
	} {
		for _, b := range []uint64{c.bits, c.bits | 1<<63} {
			if got := Safe(b); got != c.safe {
				t.Errorf("P9.1: Safe of %#x: %v", b, got)
			}
		}
	}
}

// Every exponent, held against sizes.
func TestSafeBySize(t *testing.T) {
	c := chance(1)
	for field := range uint64(2048) {
		for _, fraction := range fractions(&c) {
			x := laid(field, fraction)
			want := x == 0 || 0x1p-600 <= x && x < 0x1p601
			for _, b := range []uint64{math.Float64bits(x), math.Float64bits(-x)} {
				if got := Safe(b); got != want {
					t.Errorf("P9.1: Safe of %#x: %v", b, got)
				}
			}
		}
	}
}

func TestTheTestsOwnNumbers(t *testing.T) {
	for _, x := range safe() {
		if !Safe(math.Float64bits(x)) {
			t.Errorf("P9.1: Safe of %g: false", x)
		}
	}
	for _, x := range risky() {
		if x != 0 && Safe(math.Float64bits(x)) {
			t.Errorf("P9.1: Safe of %g: true", x)
		}
	}
}

// eachPair calls f with pairs of numbers, safe with safe, and with all others, both ways round.
func eachPair(f func(a, b float64)) {
	for _, a := range []float64{0, math.Copysign(0, -1)} {
		for _, b := range append(some(safe(), 7), a, -a) {
			f(a, b)
			f(b, a)
		}
	}
	for _, a := range some(safe(), 2) {
		for _, b := range some(safe(), 5) {
			f(a, b)
		}
	}
	for _, a := range risky() {
		for _, b := range some(safe(), 29) {
			f(a, b)
			f(b, a)
		}
		for _, b := range some(risky(), 3) {
			f(a, b)
		}
	}
}

func TestSumStepByStep(t *testing.T) {
	eachPair(func(a, b float64) {
		if got, want := Sum(a, b), sumOf(a, b); !same(got, want) {
			t.Errorf("P9.2: Sum of %x and %x: %x, not %x", a, b, got, want)
		}
	})
}

// Also where the first one is the lesser one: the steps are the same.
func TestQuickStepByStep(t *testing.T) {
	eachPair(func(a, b float64) {
		if got, want := Quick(a, b), quickOf(a, b); !same(got, want) {
			t.Errorf("P9.2: Quick of %x and %x: %x, not %x", a, b, got, want)
		}
	})
}

func TestSplitStepByStep(t *testing.T) {
	for _, a := range append(safe(), risky()...) {
		if got, want := Split(a), splitOf(a); !same(got, want) {
			t.Errorf("P9.2: Split of %x: %x, not %x", a, got, want)
		}
	}
}

func TestProdStepByStep(t *testing.T) {
	eachPair(func(a, b float64) {
		if got, want := Prod(a, b), prodOf(a, b); !same(got, want) {
			t.Errorf("P9.2: Prod of %x and %x: %x, not %x", a, b, got, want)
		}
	})
}

// eachTwo calls f with two pairs: low parts from none over the usual ones to such as are as great as their high parts.
func eachTwo(f func(x, y Pair)) {
	c := chance(9)
	eachPair(func(a, b float64) {
		lows := []float64{0, math.Copysign(0, -1), 0x1p-54 * float64(int64(c.next())) / 0x1p63, 0x1p-53, -0x1p-80, 1, -1}
		m, n := lows[c.next()%7], lows[c.next()%7]
		f(Pair{a, a * m}, Pair{b, b * n})
	})
	for _, p := range []Pair{{1, math.NaN()}, {1, math.Inf(1)}, {math.Inf(-1), math.Inf(1)}, {0, 1}, {0x1p-1074, math.MaxFloat64}} {
		for _, x := range some(safe(), 11) {
			f(p, Pair{x, x * 0x1p-55})
			f(Pair{x, -x * 0x1p-54}, p)
		}
		f(p, p)
	}
}

func TestAddStepByStep(t *testing.T) {
	eachTwo(func(x, y Pair) {
		if got, want := Add(x, y), addOf(x, y); !same(got, want) {
			t.Errorf("P9.3: Add of %x and %x: %x, not %x", x, y, got, want)
		}
	})
}

func TestMulStepByStep(t *testing.T) {
	eachTwo(func(x, y Pair) {
		if got, want := Mul(x, y), mulOf(x, y); !same(got, want) {
			t.Errorf("P9.3: Mul of %x and %x: %x, not %x", x, y, got, want)
		}
	})
}

// just is whether Hi and Lo together are what was reckoned without rounding.
func just(p Pair, want *big.Float) bool {
	if endless(p.Hi) || endless(p.Lo) {
		return false
	}
	return new(big.Float).SetPrec(exactly).Add(wide(p.Hi), wide(p.Lo)).Cmp(want) == 0
}

func TestSumIsJust(t *testing.T) {
	for _, a := range safe() {
		for _, b := range some(safe(), 3) {
			want := new(big.Float).SetPrec(exactly).Add(wide(a), wide(b))
			p := Sum(a, b)
			if nearest, _ := want.Float64(); p.Hi != nearest || !just(p, want) {
				t.Errorf("P9.4: Sum of %x and %x: %x", a, b, p)
			}
			great, small := a, b
			if math.Abs(a) < math.Abs(b) {
				great, small = b, a
			}
			if q := Quick(great, small); q.Hi != p.Hi || q.Lo != p.Lo {
				t.Errorf("P9.2: Quick of %x and %x: %x, not %x", great, small, q, p)
			}
		}
	}
}

// reached is whether the product of the halves, and each bit of it, lies where float64 has numbers.
func reached(a, b float64) bool {
	if a == 0 || b == 0 {
		return true
	}
	sum := math.Ilogb(a) + math.Ilogb(b)
	return -970 <= sum && sum <= 1021
}

func TestProdIsJust(t *testing.T) {
	for _, a := range safe() {
		for _, b := range some(safe(), 3) {
			if !reached(a, b) {
				continue
			}
			want := new(big.Float).SetPrec(exactly).Mul(wide(a), wide(b))
			p := Prod(a, b)
			if nearest, _ := want.Float64(); p.Hi != nearest || !just(p, want) {
				t.Errorf("P9.4: Prod of %x and %x: %x", a, b, p)
			}
		}
	}
}

// Where the last and the first exponents are at which every product is just.
func TestProdIsJustUpToTheEnds(t *testing.T) {
	c := chance(21)
	for _, sum := range []int{-970, -969, -968, 0, 1020, 1021} {
		for range 2000 {
			low := max(-600, sum-600)
			first := low + int(c.next()%uint64(min(600, sum+600)-low+1))
			a, b := laid(uint64(first+1023), c.next()|1), -laid(uint64(sum-first+1023), c.next()|1)
			if p := Prod(a, b); !just(p, new(big.Float).SetPrec(exactly).Mul(wide(a), wide(b))) {
				t.Errorf("P9.4: Prod of %x and %x: %x", a, b, p)
			}
		}
	}
}

// Beyond those ends no float64 holds the rest, or the product: what P9.2's steps tell is told.
func TestProdBeyondTheEnds(t *testing.T) {
	for _, c := range []struct {
		a, b float64
		want Pair
	}{
		{0x1p-600, 0x1p-600, Pair{0, 0}},
		{-0x1p-600, 0x1p-600, Pair{math.Copysign(0, -1), 0}},
		{0x1p-537, 0x1p-537, Pair{0x1p-1074, 0}},
		{0x1.0000000000001p-500, 0x1.0000000000001p-471, Pair{0x1.0000000000002p-971, 0}},
		{0x1.0000000000001p-500, 0x1.0000000000001p-470, Pair{0x1.0000000000002p-970, 0x1p-1074}},
		{0x1p600, 0x1p600, Pair{math.Inf(1), math.NaN()}},
		{-0x1p600, 0x1p600, Pair{math.Inf(-1), math.NaN()}},
		{0x1p512, 0x1p511, Pair{0x1p1023, 0}},
		{0x1p512, 0x1p512, Pair{math.Inf(1), math.NaN()}},
	} {
		if got := Prod(c.a, c.b); !same(got, c.want) {
			t.Errorf("P9.2: Prod of %x and %x: %x, not %x", c.a, c.b, got, c.want)
		}
	}
}

// bitsOf is how many bits there are from the first one of x to its last one.
func bitsOf(x float64) int {
	return int(wide(x).MinPrec())
}

func TestSplitIsJust(t *testing.T) {
	c := chance(33)
	list := safe()
	for field := uint64(423); field <= 1623; field++ {
		list = append(list, laid(field, c.next()), -laid(field, c.next()), laid(field, 1<<52-1), laid(field, 1<<26+1<<25))
	}
	for _, a := range list {
		p := Split(a)
		if !just(p, wide(a)) || bitsOf(p.Hi) > 26 || bitsOf(p.Lo) > 26 {
			t.Errorf("P9.4: Split of %x: %x", a, p)
		}
	}
}

// Answers written out: ties, what cancels, carries, and what is rounded twice on purpose.
func TestWrittenOut(t *testing.T) {
	for i, c := range []struct{ got, want Pair }{
		{Sum(1<<53, 1), Pair{1 << 53, 1}},
		{Sum(1, 1<<53), Pair{1 << 53, 1}},
		{Sum(1<<53+2, 1), Pair{1<<53 + 4, -1}},
		{Sum(1, -1), Pair{0, 0}},
		{Sum(0x1p600, -0x1p-600), Pair{0x1p600, -0x1p-600}},
		{Sum(0.1, 0.2), Pair{0x1.3333333333334p-2, -0x1p-55}},
		{Sum(math.MaxFloat64, math.MaxFloat64), Pair{math.Inf(1), math.NaN()}},
		{Quick(1<<53, 1), Pair{1 << 53, 1}},
		{Quick(1, -0.5), Pair{0.5, 0}},
		{Quick(1, 0x1p-60), Pair{1, 0x1p-60}},
		{Quick(0x1p-60, 1), Pair{1, 0}},
		{Split(1<<53 - 1), Pair{1 << 53, -1}},
		{Split(1), Pair{1, 0}},
		{Split(-(1<<27 + 1)), Pair{-(1 << 27), -1}},
		{Split(0x1p997), Pair{math.NaN(), math.NaN()}},
		{Prod(3, 5), Pair{15, 0}},
		{Prod(1<<53-1, 1<<53-1), Pair{0x1.ffffffffffffep105, 1}},
		{Prod(1<<27+1, 1<<27+1), Pair{1<<54 + 1<<28, 1}},
		{Prod(-(1<<27 + 1), 1<<27+1), Pair{-(1<<54 + 1<<28), -1}},
		{Add(Pair{1, 0x1p-60}, Pair{2, 0x1p-59}), Pair{3, 0x1.8p-59}},
		{Add(Pair{1, 0x1p-60}, Pair{-1, 0x1p-60}), Pair{0x1p-59, 0}},
		{Add(Pair{1 << 53, 1}, Pair{1, 0}), Pair{1<<53 + 2, 0}},
		{Mul(Pair{3, 0}, Pair{4, 0x1p-60}), Pair{12, 0x1.8p-59}},
		{Mul(Pair{3, 0x1p-60}, Pair{4, 0}), Pair{12, 0x1p-58}},
		{Mul(Pair{1, 0x1p-60}, Pair{1, 0x1p-60}), Pair{1, 0x1p-59}},
	} {
		if !same(c.got, c.want) {
			t.Errorf("P9.2, P9.3: row %d: %x, not %x", i, c.got, c.want)
		}
	}
}

// Crossed products that leave a rest themselves: one that is fused keeps it, and tells another Lo.
func TestNothingIsFused(t *testing.T) {
	const third = 0x1.5555555555555p-54
	x, y := Pair{1, third}, Pair{0x1.5555555555555p-2, -0x1.5555555555555p-56}
	p := Prod(x.Hi, y.Hi)
	want := quickOf(p.Hi, plus(p.Lo, plus(times(x.Hi, y.Lo), times(x.Lo, y.Hi))))
	fused := quickOf(p.Hi, plus(p.Lo, math.FMA(x.Lo, y.Hi, times(x.Hi, y.Lo))))
	if same(want, fused) {
		t.Fatal("the test's own numbers don't tell a fused product from one by itself")
	}
	if got := Mul(x, y); !same(got, want) {
		t.Errorf("P9.3: Mul of %x and %x: %x, not %x", x, y, got, want)
	}
}

// conversion is whether a node is float64(..).
func conversion(n ast.Node) bool {
	call, ok := n.(*ast.CallExpr)
	if !ok {
		return false
	}
	name, ok := call.Fun.(*ast.Ident)
	return ok && name.Name == "float64"
}

// product is whether a node multiplies.
func product(n ast.Node) bool {
	switch n := n.(type) {
	case *ast.BinaryExpr:
		return n.Op == token.MUL
	case *ast.AssignStmt:
		return n.Tok == token.MUL_ASSIGN
	}
	return false
}

// Most processors that the tests run on fuse nothing by themselves, so that the text is asked as well.
func TestEachProductStandsByItself(t *testing.T) {
	files := token.NewFileSet()
	file, err := parser.ParseFile(files, "dd.go", nil, 0)
	if err != nil {
		t.Fatal(err)
	}
	products := 0
	var around []ast.Node
	ast.Inspect(file, func(n ast.Node) bool {
		if n == nil {
			around = around[:len(around)-1]
			return true
		}
		if product(n) {
			products++
			if !conversion(around[len(around)-1]) {
				t.Errorf("P9.2: %v: a product outside float64(..)", files.Position(n.Pos()))
			}
		}
		around = append(around, n)
		return true
	})
	if products == 0 {
		t.Error("P9.2: no product is there")
	}
}
