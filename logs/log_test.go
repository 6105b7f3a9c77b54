package logs

import (
	"fmt"
	"math"
	"math/big"
	"slices"
	"testing"

	"planimeter/api"
	"planimeter/dyad"
	"planimeter/nat"
	"planimeter/series"
)

// scales are both ends, those around limbs, and some between them.
func scales() []int { return []int{8, 9, 20, 63, 64, 65, 128, 500, 2000, 9000} }

// noScales are those that lie just beyond, and the ends of int.
func noScales() []int {
	return []int{math.MinInt, -9000, -64, -1, 0, 1, 7, 9001, 9002, 65536, 1 << 31, math.MaxInt}
}

// atanhOf is atanh of 1 divided by n, or of num divided by den, times 2^w, cut: less than 2w units too small.
func atanhOf(num, den *big.Int, w int) *big.Int {
	power := new(big.Int).Lsh(num, uint(w))
	power.Quo(power, den)
	up, down := new(big.Int).Mul(num, num), new(big.Int).Mul(den, den)
	sum := new(big.Int)
	for k := int64(1); power.Sign() > 0; k += 2 {
		sum.Add(sum, new(big.Int).Quo(power, big.NewInt(k)))
		power.Quo(power.Mul(power, up), down)
	}
	return sum
}

// ln2Of is ln 2 times 2^w by three other fractions than those of the package.
func ln2Of(w int) *big.Int {
	sum := new(big.Int)
	for _, part := range [][2]int64{{18, 26}, {-2, 4801}, {8, 8749}} {
		a := atanhOf(big.NewInt(1), big.NewInt(part[1]), w)
		sum.Add(sum, a.Mul(a, big.NewInt(part[0])))
	}
	return sum
}

// logOf is ln d times 2^(s + extra) by math/big, always by what d is beyond a power of two below it; off by far less
// than 2^(extra - 64) units.
func logOf(t *testing.T, d dyad.D, s int, ln2 *big.Int) *big.Int {
	t.Helper()
	m, e := bare(t, d)
	power := pow2(m.BitLen() - 1)
	beyond := atanhOf(new(big.Int).Sub(m, power), new(big.Int).Add(m, power), s+extra)
	twos := new(big.Int).Mul(ln2, big.NewInt(int64(e+m.BitLen()-1)))
	return twos.Add(twos, beyond.Lsh(beyond, 1))
}

// units is a dyad whose parts of 2^-s are whole, as their number.
func units(t *testing.T, what string, d dyad.D, s int) *big.Int {
	t.Helper()
	whole := toBig(d.M)
	if again, err := dyad.Bare(d); err != api.OK || again.Neg != d.Neg || again.E != d.E || !slices.Equal(again.M, d.M) {
		t.Errorf("%s: %s is not bare", what, text(d))
	}
	if whole.Sign() != 0 && d.E < -s {
		t.Errorf("%s: %s is no whole number of 2^-%d", what, text(d), s)
		return whole
	}
	whole.Lsh(whole, uint(d.E+s))
	if d.Neg {
		whole.Neg(whole)
	}
	return whole
}

// holds holds an answer without an error against what is meant, and against how wide it may be.
func holds(t *testing.T, what string, d dyad.D, i series.I, s int, meant *big.Int) {
	t.Helper()
	lo, hi := units(t, what, i.Lo, s), units(t, what, i.Hi, s)
	slack := pow2(extra - 64)
	if new(big.Int).Lsh(lo, extra).Cmp(new(big.Int).Add(meant, slack)) > 0 {
		t.Errorf("%s: the lower end is too great", what)
	}
	if new(big.Int).Lsh(hi, extra).Cmp(new(big.Int).Sub(meant, slack)) < 0 {
		t.Errorf("%s: the upper end is too small", what)
	}
	top, _ := dyad.Top(d)
	most := (max(top, -top) + 2) * (2*s + 128)
	if wide := hi.Sub(hi, lo); wide.Sign() < 0 || wide.Cmp(big.NewInt(int64(most))) > 0 {
		t.Errorf("%s: %d bits wide, not at most %d", what, wide.BitLen(), most)
	}
}

func TestLog(t *testing.T) {
	for k, s := range scales() {
		ln2 := ln2Of(s + extra)
		for i, d := range numbers() {
			if s > 500 && i%(s/250) != k%5 {
				continue
			}
			what := fmt.Sprintf("P13.2: Log of %s at %d", text(d), s)
			told, err := Log(d, s)
			if err != api.OK {
				t.Errorf("%s: %d", what, err)
				continue
			}
			holds(t, what, d, told, s, logOf(t, d, s, ln2))
		}
	}
}

// What is next to 1 is in size less than a unit: its sign isn't lost all the same, nor is 0 passed.
func TestLogNextToOne(t *testing.T) {
	for _, n := range []int{9, 40, 53, 64, 100, 3999} {
		for _, s := range []int{8, n - 2, n - 1, n, n + 1, 2 * n, 9000} {
			if s < 8 || s > 9000 {
				continue
			}
			ln2 := ln2Of(s + extra)
			for _, side := range []int64{1, -1} {
				d := number(new(big.Int).Add(pow2(n), big.NewInt(side)), -n)
				what := fmt.Sprintf("P13.2: Log of 1 and %d times 2^-%d at %d", side, n, s)
				told, err := Log(d, s)
				if err != api.OK {
					t.Errorf("%s: %d", what, err)
					continue
				}
				holds(t, what, d, told, s, logOf(t, d, s, ln2))
				if int64(dyad.Sign(told.Lo))*side < 0 || int64(dyad.Sign(told.Hi))*side < 0 {
					t.Errorf("%s: an end is beyond 0", what)
				}
			}
		}
	}
}

func TestLogOfOne(t *testing.T) {
	for _, one := range []dyad.D{dyad.Of(1), {M: []uint64{1, 0}}, small(2, -1), {M: []uint64{0, 4}, E: -66}, number(pow2(70000), -70000)} {
		for _, s := range scales() {
			if i, err := Log(one, s); err != api.OK || !isNought(i.Lo) || !isNought(i.Hi) {
				t.Errorf("P13.2: Log of %s at %d: %+v, %d", text(one), s, i, err)
			}
		}
	}
}

func isNought(d dyad.D) bool { return !d.Neg && len(d.M) == 0 && d.E == 0 }

func TestLogOfPowersOfTwo(t *testing.T) {
	for _, s := range scales() {
		lo, hi, _ := series.Ln2(s)
		two := series.Within(lo, hi, s, false)
		if i, err := Log(dyad.Of(2), s); err != api.OK || dyad.Cmp(i.Lo, two.Lo) != 0 || dyad.Cmp(i.Hi, two.Hi) != 0 {
			t.Errorf("P13.2: the example: Log of 2 at %d: %+v, %d", s, i, err)
		}
		half := series.Within(lo, hi, s, true)
		if i, err := Log(small(1, -1), s); err != api.OK || dyad.Cmp(i.Lo, half.Lo) != 0 || dyad.Cmp(i.Hi, half.Hi) != 0 {
			t.Errorf("P13.2: Log of 1/2 at %d: %+v, %d", s, i, err)
		}
	}
}

// digits are known ones, of which the first are whole, times 2^(s + extra), cut.
func digits(t *testing.T, text string, whole, s int) *big.Int {
	t.Helper()
	number, ok := new(big.Int).SetString(text, 10)
	if !ok {
		t.Fatalf("no digits: %s", text)
	}
	ten := new(big.Int).Exp(big.NewInt(10), big.NewInt(int64(len(text)-whole)), nil)
	return number.Quo(number.Lsh(number, uint(s+extra)), ten)
}

func TestKnownDigits(t *testing.T) {
	cases := []struct {
		d     dyad.D
		text  string
		whole int
	}{
		{dyad.Of(2), "0693147180559945309417232121458176568075500134360255254120680009493393621969694715605863326996418687", 1},
		{dyad.Of(3), "1098612288668109691395245236922525704647490557822749451734694333637494293218608966873615754813732088", 1},
		{dyad.Of(10), "2302585092994045684017991454684364207601101488628772976033327900967572609677352480235997205089598298", 1},
	}
	for _, c := range cases {
		for _, s := range []int{8, 16, 40, 64} {
			what := fmt.Sprintf("P13.2: Log of %s at %d by its digits", text(c.d), s)
			i, err := Log(c.d, s)
			if err != api.OK {
				t.Errorf("%s: %d", what, err)
			}
			holds(t, what, c.d, i, s, digits(t, c.text, c.whole, s))
		}
	}
}

// refused holds an answer against ErrArg and nothing else.
func refused(t *testing.T, what string, i series.I, err api.Errno) {
	t.Helper()
	if err != api.ErrArg || !isNought(i.Lo) || !isNought(i.Hi) {
		t.Errorf("%s: %d", what, err)
	}
}

func TestLogWrong(t *testing.T) {
	least, most := far()
	for _, d := range noNumbers() {
		for _, s := range append(noScales(), 8, 64, 9000) {
			i, err := Log(d, s)
			refused(t, fmt.Sprintf("P13.2: Log of %s at %d", text(d), s), i, err)
		}
	}
	for _, d := range []dyad.D{dyad.Of(1), dyad.Of(2), dyad.Of(3), small(5, -9), least, most, number(rolled(2, 4000), -4000)} {
		for _, s := range noScales() {
			i, err := Log(d, s)
			refused(t, fmt.Sprintf("P13.2: Log of %s at %d", text(d), s), i, err)
		}
		for _, s := range []int{8, 9000} {
			if _, err := Log(d, s); err != api.OK {
				t.Errorf("P13.2: Log of %s at %d: %d", text(d), s, err)
			}
		}
	}
}

// logFor is Log of a number that has one.
func logFor(t *testing.T, d dyad.D, s int) series.I {
	t.Helper()
	i, err := Log(d, s)
	if err != api.OK {
		t.Fatalf("P13.2: Log of %s at %d: %d", text(d), s, err)
	}
	return i
}

func TestLogOfProducts(t *testing.T) {
	list := []dyad.D{dyad.Of(1), dyad.Of(2), dyad.Of(3), dyad.Of(5), dyad.Of(6), small(1, -1), small(3, -2), small(7, -3), small(9, -3), dyad.Of(1000003),
		small(1, -1074), small(1, 1023), number(rolled(1, 53), -52), number(rolled(2, 53), -1000), number(rolled(3, 2000), -1999), number(rolled(4, 1999), 100),
		number(new(big.Int).Add(pow2(53), big.NewInt(1)), -53), number(new(big.Int).Sub(pow2(53), big.NewInt(1)), -53), small(1, farEnd/2), small(3, -farEnd/2)}
	for _, s := range []int{8, 64, 200, 700} {
		for _, a := range list {
			for _, b := range list {
				product, err := dyad.Mul(a, b)
				if err != api.OK {
					t.Fatalf("no product: %d", err)
				}
				logA, logB, both := logFor(t, a, s), logFor(t, b, s), logFor(t, product, s)
				lo, _ := dyad.Add(logA.Lo, logB.Lo)
				hi, _ := dyad.Add(logA.Hi, logB.Hi)
				if dyad.Cmp(lo, both.Hi) > 0 || dyad.Cmp(hi, both.Lo) < 0 {
					t.Errorf("P13.3: Log of %s and of %s at %d: they have nothing in common with that of the product", text(a), text(b), s)
				}
			}
		}
	}
}

// grows holds the logarithms of a row against each other: no end of a greater one is less.
func grows(t *testing.T, row []dyad.D, s int) {
	t.Helper()
	slices.SortFunc(row, dyad.Cmp)
	last := logFor(t, row[0], s)
	for k, d := range row[1:] {
		next := logFor(t, d, s)
		if dyad.Cmp(next.Lo, last.Lo) < 0 || dyad.Cmp(next.Hi, last.Hi) < 0 {
			t.Errorf("P13.3: Log of %s at %d is less than that of %s", text(d), s, text(row[k]))
		}
		last = next
	}
}

func TestLogGrows(t *testing.T) {
	grows(t, numbers(), 8)
	grows(t, numbers(), 64)
	grows(t, numbers(), 600)
	for s := 8; s < 30; s++ {
		var row []dyad.D
		for m := int64(1); m < 1600; m++ {
			row = append(row, small(m, -6))
		}
		grows(t, row, s)
	}
}

// At three halves of a power of two the fraction turns; the row goes over it in steps of half, one and two units.
func TestLogGrowsAtTheTurn(t *testing.T) {
	for s := 8; s < 140; s += 1 + s/20 {
		for _, e := range []int{-1 << 19, -100, -3, -2, -1, 0, 1, 2, 99, 1 << 19} {
			var row []dyad.D
			for step := int64(-12); step <= 12; step++ {
				m := new(big.Int).Lsh(big.NewInt(3), uint(s+2))
				row = append(row, number(m.Add(m, big.NewInt(2*step)), e-s-3))
			}
			grows(t, row, s)
		}
	}
	for _, s := range []int{1000, 9000} {
		// With 4000 bits some are so near that they lie within a unit.
		m := new(big.Int).Lsh(big.NewInt(3), uint(min(s, 3990)))
		row := []dyad.D{number(m, 0)}
		for step := int64(1); step < 5; step++ {
			row = append(row, number(new(big.Int).Add(m, big.NewInt(step)), 0), number(new(big.Int).Sub(m, big.NewInt(step)), 0))
		}
		grows(t, row, s)
	}
}

// What is handed in stays, whatever becomes of what is told, and no two lists of an answer share memory.
func TestWhatIsHandedInStays(t *testing.T) {
	for _, d := range append(numbers(), noNumbers()...) {
		kept := slices.Clone(d.M)
		all := append(slices.Clone(d.M), 77, 77)
		d.M = all[:len(kept)]
		num, den, _, _, _ := Near(d)
		told := [][]uint64{num, den}
		for _, s := range []int{7, 8, 64} {
			i, _ := Log(d, s)
			told = append(told, i.Lo.M, i.Hi.M)
		}
		var want [][]uint64
		for _, list := range told {
			want = append(want, slices.Clone(list))
		}
		for k, list := range told {
			if !slices.Equal(list, want[k]) {
				t.Fatalf("R4: of %s: two lists share memory", text(d))
			}
			spoiled := list[:cap(list)]
			for j := range spoiled {
				spoiled[j] ^= full
			}
		}
		if !slices.Equal(all[:len(kept)], kept) || all[len(kept)] != 77 || all[len(kept)+1] != 77 {
			t.Fatalf("R4: what was handed in is changed, or shared: %s", text(d))
		}
	}
}

// What was told once is told again.
func TestNothingIsKept(t *testing.T) {
	for _, s := range []int{8, 64, 300} {
		first := logFor(t, dyad.Of(3), s)
		for j := range first.Lo.M {
			first.Lo.M[j] ^= full
		}
		again, more := logFor(t, dyad.Of(3), s), logFor(t, dyad.D{M: []uint64{12, 0}, E: -2}, s)
		if dyad.Cmp(again.Lo, more.Lo) != 0 || dyad.Cmp(again.Hi, more.Hi) != 0 || dyad.Cmp(again.Hi, first.Hi) != 0 {
			t.Errorf("R6: Log of 3 at %d: %+v, then %+v", s, first, again)
		}
	}
	if num, den, _, _, ok := Near(dyad.Of(5)); !ok || nat.Cmp(num, nat.Of(1)) != 0 || nat.Cmp(den, nat.Of(9)) != 0 {
		t.Errorf("P13.1: Near of 5: %v, %v", num, den)
	}
}
