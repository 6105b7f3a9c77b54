package series

import (
	"fmt"
	"math"
	"math/big"
	"slices"
	"testing"

	"planimeter/api"
	"planimeter/dyad"
	"planimeter/nat"
)

const full = math.MaxUint64

// extra is how many bits more than asked for the tests reckon by math/big.
const extra = 256

// toBig is a number by math/big, which the tests hold the package against.
func toBig(a []uint64) *big.Int {
	sum := new(big.Int)
	for i := len(a) - 1; i >= 0; i-- {
		sum.Lsh(sum, 64)
		sum.Or(sum, new(big.Int).SetUint64(a[i]))
	}
	return sum
}

// fromBig is the bare list of a number of math/big.
func fromBig(n *big.Int) []uint64 {
	rest := new(big.Int).Set(n)
	low := new(big.Int)
	mask := new(big.Int).SetUint64(full)
	var list []uint64
	for rest.Sign() > 0 {
		list = append(list, low.And(rest, mask).Uint64())
		rest.Rsh(rest, 64)
	}
	return list
}

// pow2 is 2^n.
func pow2(n int) *big.Int { return new(big.Int).Lsh(big.NewInt(1), uint(n)) }

// rolled is a number of a fixed rule, of just so many bits.
func rolled(seed uint64, count int) *big.Int {
	state, number := seed, new(big.Int)
	for range count/64 + 1 {
		state = state*6364136223846793005 + 1442695040888963407
		number.Lsh(number, 64).Or(number, new(big.Int).SetUint64(state^state>>29))
	}
	number.Mod(number, pow2(count-1))
	return number.SetBit(number, count-1, 1)
}

// meant is two numbers that have what is meant, times 2^(s + extra), between them, few units apart.
type meant struct{ low, high *big.Int }

// byTerms sums terms till they are 0; each one is less than 4 too small.
func byTerms(term func() *big.Int) meant {
	sum, slack := new(big.Int), new(big.Int)
	for {
		next := term()
		slack.Add(slack, big.NewInt(4))
		if next.Sign() == 0 {
			return meant{sum, slack.Add(slack, sum)}
		}
		sum.Add(sum, next)
	}
}

// atanhOf is atanh by math/big; the terms beyond the last one are less than its slack.
func atanhOf(num, den *big.Int, s int) meant {
	power := new(big.Int).Lsh(num, uint(s+extra))
	power.Quo(power, den)
	up, down := new(big.Int).Mul(num, num), new(big.Int).Mul(den, den)
	k := int64(-1)
	return byTerms(func() *big.Int {
		if k += 2; k > 1 {
			power.Quo(power.Mul(power, up), down)
		}
		return new(big.Int).Quo(power, big.NewInt(k))
	})
}

// expOf is exp of x divided by 2^s by math/big.
func expOf(x *big.Int, s int) meant {
	last, k := pow2(s+extra), int64(-1)
	return byTerms(func() *big.Int {
		if k++; k > 0 {
			last.Rsh(last.Mul(last, x), uint(s))
			last.Quo(last, big.NewInt(k))
		}
		return new(big.Int).Set(last)
	})
}

// isBare is whether a list that was told has no leading noughts.
func isBare(a []uint64) bool { return len(a) == 0 || a[len(a)-1] != 0 }

// short spares the reader the hundred limbs of a long number.
func short(n *big.Int) string {
	if n.BitLen() > 200 {
		return fmt.Sprintf("a number of %d bits", n.BitLen())
	}
	return n.String()
}

// between holds an answer without an error against what is meant below and above, and against how wide it may be.
func between(t *testing.T, what string, lo, hi []uint64, err api.Errno, below, above meant, most int) {
	t.Helper()
	if err != api.OK || !isBare(lo) || !isBare(hi) {
		t.Errorf("%s: %v, %v, %d", what, lo, hi, err)
		return
	}
	low, high := toBig(lo), toBig(hi)
	if new(big.Int).Lsh(low, extra).Cmp(below.low) > 0 {
		t.Errorf("%s: the lower end is too great", what)
	}
	if new(big.Int).Lsh(high, extra).Cmp(above.high) < 0 {
		t.Errorf("%s: the upper end is too small", what)
	}
	if wide := new(big.Int).Sub(high, low); wide.Sign() < 0 || most >= 0 && wide.Cmp(big.NewInt(int64(most))) > 0 {
		t.Errorf("%s: %s wide, not at most %d", what, short(wide), most)
	}
}

// refused holds an answer against ErrArg and nothing else.
func refused(t *testing.T, what string, lo, hi []uint64, err api.Errno) {
	t.Helper()
	if err != api.ErrArg || len(lo) != 0 || len(hi) != 0 {
		t.Errorf("%s: %d limbs, %d limbs, %d", what, len(lo), len(hi), err)
	}
}

// scales are both ends, those around limbs, and some between them.
func scales() []int {
	return []int{8, 9, 10, 31, 63, 64, 65, 127, 128, 129, 500, 1000, 4096, 8999, 9000}
}

// noScales are those that lie just beyond, and the ends of int.
func noScales() []int {
	return []int{math.MinInt, math.MinInt + 1, -9000, -8, -1, 0, 1, 7, 9001, 9064, 65536, math.MaxInt - 1, math.MaxInt}
}

// fraction is what Atanh is asked of.
type fraction struct{ num, den *big.Int }

// fractions are small ones, a third, what lies just below it, powers of two, tiny ones and long ones.
func fractions() []fraction {
	long := rolled(7, 4094)
	list := []fraction{
		{big.NewInt(1), big.NewInt(3)}, {big.NewInt(1), big.NewInt(4)}, {big.NewInt(1), big.NewInt(5)}, {big.NewInt(2), big.NewInt(7)},
		{big.NewInt(6), big.NewInt(18)}, {big.NewInt(1), big.NewInt(8749)}, {big.NewInt(1), pow2(63)}, {big.NewInt(1), pow2(64)},
		{new(big.Int).SetUint64(full), new(big.Int).Mul(new(big.Int).SetUint64(full), big.NewInt(3))},
		{pow2(52), new(big.Int).Add(pow2(53), pow2(52))}, {big.NewInt(5), pow2(4095)}, {big.NewInt(1), new(big.Int).Sub(pow2(4096), big.NewInt(1))},
		{long, new(big.Int).Mul(long, big.NewInt(3))}, {long, new(big.Int).Sub(pow2(4096), big.NewInt(1))},
	}
	for i := range 12 {
		count := 20 + 190*i
		list = append(list, fraction{rolled(uint64(i), count), rolled(uint64(i+50), count+3+i%5*40)})
	}
	return list
}

func TestAtanh(t *testing.T) {
	for i, f := range fractions() {
		for j, s := range scales() {
			if s > 1000 && (i+j)%4 != 0 && i > 0 {
				continue
			}
			if new(big.Int).Mul(f.num, big.NewInt(3)).Cmp(f.den) > 0 || f.den.BitLen() > 4096 {
				t.Fatalf("fraction %d is none to ask of", i)
			}
			lo, hi, err := Atanh(fromBig(f.num), fromBig(f.den), s)
			m := atanhOf(f.num, f.den, s)
			between(t, fmt.Sprintf("P12.1: Atanh of %s and %s at %d", short(f.num), short(f.den), s), lo, hi, err, m, m, s+64)
		}
	}
}

// Of 1 and 2^n all is 0 up to the scale n, where only what comes behind the first term is above the unit.
func TestAtanhOfPowersOfTwo(t *testing.T) {
	for _, n := range []int{2, 8, 63, 64, 65, 71, 72, 73, 128, 3000, 4095} {
		for _, s := range []int{8, 9, n - 65, n - 64, n - 63, n - 1, n, n + 1, 3*n - 1, 3 * n, 3*n + 5, 9000} {
			if s < 8 || s > 9000 {
				continue
			}
			lo, hi, err := Atanh(nat.Of(1), fromBig(pow2(n)), s)
			m := atanhOf(big.NewInt(1), pow2(n), s)
			between(t, fmt.Sprintf("P12.1: Atanh of 2^-%d at %d", n, s), lo, hi, err, m, m, s+64)
		}
	}
}

func TestAtanhOfNought(t *testing.T) {
	for _, nought := range [][]uint64{nil, {}, {0}, make([]uint64, 100)} {
		for _, den := range [][]uint64{{1}, {5, 0, 0}, {0, 1}, fromBig(rolled(3, 4096))} {
			for _, s := range scales() {
				if lo, hi, err := Atanh(nought, den, s); err != api.OK || len(lo) != 0 || len(hi) != 0 {
					t.Errorf("P12.1: Atanh of 0 at %d: %v, %v, %d", s, lo, hi, err)
				}
			}
		}
	}
}

func TestAtanhWrongScales(t *testing.T) {
	for _, s := range noScales() {
		for _, num := range [][]uint64{nil, {1}} {
			lo, hi, err := Atanh(num, nat.Of(3), s)
			refused(t, fmt.Sprintf("P12.1: Atanh at %d", s), lo, hi, err)
		}
	}
}

func TestAtanhWrongFractions(t *testing.T) {
	third := fromBig(new(big.Int).Quo(pow2(4096), big.NewInt(3)))
	most := fromBig(new(big.Int).Sub(pow2(4096), big.NewInt(1)))
	cases := []struct {
		what     string
		num, den []uint64
	}{
		{"1 and 2", []uint64{1}, []uint64{2}}, {"2 and 5", []uint64{2}, []uint64{5}}, {"1 and 1", []uint64{1}, []uint64{1}},
		{"3 and 1", []uint64{3}, []uint64{1}}, {"1 and 0", []uint64{1}, nil}, {"0 and 0", nil, nil}, {"0 and 00", nil, []uint64{0, 0}},
		{"what goes round", []uint64{1 << 63}, []uint64{1, 1}}, {"a third and one", nat.Add(third, nat.Of(1)), most},
		{"two thirds", fromBig(rolled(1, 4095)), most}, {"a den of 4097 bits", []uint64{1}, fromBig(pow2(4096))},
		{"0 and 4097 bits", nil, fromBig(pow2(4096))}, {"4097 and 4099 bits", fromBig(pow2(4096)), fromBig(rolled(2, 4099))},
		{"70000 bits and 3", fromBig(pow2(70000)), []uint64{3}}, {"3 and 70000 bits", []uint64{3}, fromBig(pow2(70000))},
		{"65536 and 65538 bits", fromBig(pow2(65535)), fromBig(rolled(2, 65538))},
	}
	for _, c := range cases {
		for _, s := range []int{8, 9, 99, 9000} {
			lo, hi, err := Atanh(c.num, c.den, s)
			refused(t, fmt.Sprintf("P12.1: Atanh of %s at %d", c.what, s), lo, hi, err)
		}
	}
	// What is just not too much.
	if _, _, err := Atanh(third, most, 64); err != api.OK {
		t.Errorf("P12.1: Atanh of a third of 4096 bits: %d", err)
	}
}

// digits are known ones, cut: what is meant lies between them and one more at the end.
func digits(t *testing.T, text string, s int) meant {
	t.Helper()
	low, ok := new(big.Int).SetString(text, 10)
	if !ok {
		t.Fatalf("no digits: %s", text)
	}
	ten := new(big.Int).Exp(big.NewInt(10), big.NewInt(int64(len(text))), nil)
	high := new(big.Int).Add(low, big.NewInt(1))
	low.Quo(low.Lsh(low, uint(s+extra)), ten)
	high.Quo(high.Lsh(high, uint(s+extra)), ten)
	return meant{low, high.Add(high, big.NewInt(1))}
}

func TestKnownDigits(t *testing.T) {
	const (
		ln2   = "69314718055994530941723212145817656807550013436025525412068000949339362196969471560586332699641868754200148102057"
		tenth = "2718281828459045235360287471352662497757247093699959574966967627724076630353547594571382178525166427"     // e, divided by ten
		half  = "16487212707001281468486507878141635716537761007101480115750793116406610211942156086327765200563666430028" // of e the root, divided by ten
	)
	for _, s := range []int{8, 20, 64, 100, 200, 300} {
		m := digits(t, ln2, s)
		lo, hi, err := Ln2(s)
		between(t, fmt.Sprintf("P12.1: Ln2 at %d", s), lo, hi, err, m, m, 2*s+128)
		for text, x := range map[string]*big.Int{tenth: pow2(s), half: pow2(s - 1)} {
			m := digits(t, text, s)
			tenfold := meant{m.low.Mul(m.low, big.NewInt(10)), m.high.Mul(m.high, big.NewInt(10))}
			lo, hi, err := Exp(fromBig(x), fromBig(x), s)
			between(t, fmt.Sprintf("P12.2: Exp of %s at %d", short(x), s), lo, hi, err, tenfold, tenfold, 4*s+64)
		}
	}
}

func TestLn2(t *testing.T) {
	lo, hi, err := Ln2(8)
	if err != api.OK || nat.Cmp(lo, nat.Of(177)) > 0 || nat.Cmp(hi, nat.Of(178)) < 0 {
		t.Errorf("P12.1: the example: %v, %v, %d", lo, hi, err)
	}
	some := scales()
	for s := 8; s < 400; s++ {
		some = append(some, s)
	}
	most := atanhOf(big.NewInt(1), big.NewInt(3), 9001)
	for _, s := range some {
		m := meant{new(big.Int).Rsh(most.low, uint(9000-s)), new(big.Int).Rsh(most.high, uint(9000-s))}
		m.high.Add(m.high, big.NewInt(1))
		lo, hi, err := Ln2(s)
		between(t, fmt.Sprintf("P12.1: Ln2 at %d", s), lo, hi, err, m, m, 2*s+128)
	}
	for _, s := range noScales() {
		lo, hi, err := Ln2(s)
		refused(t, fmt.Sprintf("P12.1: Ln2 at %d", s), lo, hi, err)
	}
}

// points are numbers that Exp at s can be asked of, in order: both ends and their neighbours first and last.
func points(s int) []*big.Int {
	one, all := big.NewInt(1), pow2(s)
	list := []*big.Int{one, big.NewInt(2), big.NewInt(3), pow2(s / 2), new(big.Int).Quo(all, big.NewInt(7)), new(big.Int).Quo(all, big.NewInt(3)),
		pow2(s - 1), new(big.Int).Quo(new(big.Int).Mul(all, big.NewInt(9)), big.NewInt(13)), rolled(uint64(s), s), new(big.Int).Sub(all, one), all}
	slices.SortFunc(list, (*big.Int).Cmp)
	return list
}

func TestExpOfOne(t *testing.T) {
	for _, s := range scales() {
		for i, x := range points(s) {
			if s > 4096 && i%3 == 1 {
				continue
			}
			m := expOf(x, s)
			lo, hi, err := Exp(fromBig(x), append(fromBig(x), 0), s)
			between(t, fmt.Sprintf("P12.2: Exp of %s at %d", short(x), s), lo, hi, err, m, m, 4*s+64)
		}
	}
}

func TestExpOfTwo(t *testing.T) {
	for _, s := range []int{8, 9, 63, 64, 65, 200, 1000} {
		list := points(s)
		for i, a := range list {
			for _, b := range list[i:] {
				lo, hi, err := Exp(fromBig(a), fromBig(b), s)
				between(t, fmt.Sprintf("P12.2: Exp of %s to %s at %d", short(a), short(b), s), lo, hi, err, expOf(a, s), expOf(b, s), -1)
			}
		}
	}
}

func TestExpOfNought(t *testing.T) {
	for _, s := range scales() {
		one := meant{pow2(s + extra), pow2(s + extra)}
		for _, nought := range [][]uint64{nil, {}, {0, 0}} {
			lo, hi, err := Exp(nought, nil, s)
			between(t, fmt.Sprintf("P12.2: Exp of 0 at %d", s), lo, hi, err, one, one, 4*s+64)
			lo, hi, err = Exp(nought, nat.Of(9), s)
			between(t, fmt.Sprintf("P12.2: Exp of 0 to 9 at %d", s), lo, hi, err, one, expOf(big.NewInt(9), s), -1)
		}
	}
}

func TestExpWrong(t *testing.T) {
	for _, s := range noScales() {
		for _, x := range [][]uint64{nil, {1}} {
			lo, hi, err := Exp(x, x, s)
			refused(t, fmt.Sprintf("P12.2: Exp at %d", s), lo, hi, err)
		}
	}
	for _, s := range scales() {
		all := fromBig(pow2(s))
		beyond := nat.Add(all, nat.Of(1))
		cases := []struct {
			what string
			a, b []uint64
		}{
			{"1 to 0", nat.Of(1), nil}, {"2 to 1", nat.Of(2), nat.Of(1)}, {"2 to 1, not bare", nat.Of(2), []uint64{1, 0, 0}},
			{"0 to what is too great", nil, beyond}, {"too great to too great", beyond, beyond}, {"too great to all", beyond, all},
			{"all to 0", all, nil}, {"all to one less", all, fromBig(new(big.Int).Sub(pow2(s), big.NewInt(1)))},
			{"70000 bits", fromBig(pow2(70000)), fromBig(pow2(70000))}, {"1 to 70000 bits", nat.Of(1), fromBig(pow2(70000))},
		}
		for _, c := range cases {
			lo, hi, err := Exp(c.a, c.b, s)
			refused(t, fmt.Sprintf("P12.2: Exp of %s at %d", c.what, s), lo, hi, err)
		}
	}
}

// isDyad holds one end against the bare dyad that was awaited.
func isDyad(d dyad.D, neg bool, m []uint64, e int) bool {
	return d.Neg == neg && slices.Equal(d.M, m) && d.E == e
}

func TestWithin(t *testing.T) {
	cases := []struct {
		lo, hi     []uint64
		s          int
		neg        bool
		negLo      bool
		mLo        []uint64
		eLo        int
		negHi      bool
		mHi        []uint64
		eHi        int
		whatItsFor string
	}{
		{[]uint64{1}, []uint64{3}, 1, false, false, []uint64{1}, -1, false, []uint64{3}, -1, "as they stand"},
		{[]uint64{1}, []uint64{3}, 1, true, true, []uint64{3}, -1, true, []uint64{1}, -1, "turned"},
		{[]uint64{177}, []uint64{178}, 8, false, false, []uint64{177}, -8, false, []uint64{89}, -7, "bare"},
		{[]uint64{12, 0, 0}, []uint64{0, 0, 1, 0}, 64, true, true, []uint64{1}, 64, true, []uint64{3}, -62, "not bare when handed in"},
		{nil, []uint64{5}, 3, false, false, nil, 0, false, []uint64{5}, -3, "from 0"},
		{[]uint64{0}, []uint64{5}, 3, true, true, []uint64{5}, -3, false, nil, 0, "up to 0, which has no sign"},
		{nil, nil, 3, true, false, nil, 0, false, nil, 0, "0 alone"},
		{[]uint64{7}, []uint64{7}, 0, true, true, []uint64{7}, 0, true, []uint64{7}, 0, "one number twice"},
		{[]uint64{1}, []uint64{3}, -5, false, false, []uint64{1}, 5, false, []uint64{3}, 5, "a scale below 0"},
		{[]uint64{3}, []uint64{1}, 1, false, false, []uint64{1}, -1, false, []uint64{3}, -1, "handed in the other way round"},
		{[]uint64{3}, []uint64{1}, 1, true, true, []uint64{3}, -1, true, []uint64{1}, -1, "the other way round, turned"},
		{[]uint64{1}, []uint64{3}, 1 << 30, false, false, []uint64{1}, -1 << 30, false, []uint64{3}, -1 << 30, "the least exponent"},
		{[]uint64{1}, []uint64{3}, -1 << 30, false, false, []uint64{1}, 1 << 30, false, []uint64{3}, 1 << 30, "the greatest exponent"},
		{[]uint64{2}, []uint64{4}, 1<<30 + 1, false, false, []uint64{1}, -1 << 30, false, []uint64{1}, 1 - 1<<30, "what is bare has the exponent"},
	}
	for _, c := range cases {
		i := Within(c.lo, c.hi, c.s, c.neg)
		if !isDyad(i.Lo, c.negLo, c.mLo, c.eLo) || !isDyad(i.Hi, c.negHi, c.mHi, c.eHi) {
			t.Errorf("P12.3: Within, %s: %+v", c.whatItsFor, i)
		}
	}
}

func TestWithinNoDyads(t *testing.T) {
	for _, s := range []int{math.MinInt, math.MinInt + 1, -1 << 62, -1<<31 - 1, -1 << 31, -1<<30 - 1, 1<<30 + 1, 1 << 31, 1<<31 + 1, 1 << 62, math.MaxInt} {
		for _, neg := range []bool{false, true} {
			for _, hi := range [][]uint64{{1}, {3}, {5, 7}} {
				for _, lo := range [][]uint64{nil, {1}} {
					i := Within(lo, hi, s, neg)
					if !isDyad(i.Lo, false, nil, 0) || !isDyad(i.Hi, false, nil, 0) {
						t.Errorf("P12.3: Within of %v and %v at %d: %+v", lo, hi, s, i)
					}
				}
			}
			if i := Within(nil, []uint64{0}, s, neg); !isDyad(i.Lo, false, nil, 0) || !isDyad(i.Hi, false, nil, 0) {
				t.Errorf("P12.3: Within of 0 at %d: %+v", s, i)
			}
		}
	}
}

// inside holds what was told at a greater scale against what was told at one that is less by as many bits.
func inside(t *testing.T, what string, lo, hi, finerLo, finerHi []uint64, more int) {
	t.Helper()
	low, high := new(big.Int).Lsh(toBig(lo), uint(more)), new(big.Int).Lsh(toBig(hi), uint(more))
	if low.Cmp(toBig(finerLo)) > 0 || high.Cmp(toBig(finerHi)) < 0 {
		t.Errorf("P12.4: %s, by %d bits: not in the wider one", what, more)
	}
}

// steps are how many bits more are asked for.
func steps() []int { return []int{1, 2, 3, 61, 64, 128, 700} }

func TestItFollows(t *testing.T) {
	for s := 8; s < 330; s += 7 {
		lo, hi, _ := Ln2(s)
		x := new(big.Int).Quo(pow2(s), big.NewInt(int64(s%5+1)))
		expLo, expHi, _ := Exp(fromBig(x), fromBig(x), s)
		for _, more := range steps() {
			finerLo, finerHi, _ := Ln2(s + more)
			inside(t, fmt.Sprintf("Ln2 at %d", s), lo, hi, finerLo, finerHi, more)
			finer := fromBig(new(big.Int).Lsh(x, uint(more)))
			finerLo, finerHi, _ = Exp(finer, finer, s+more)
			inside(t, fmt.Sprintf("Exp of %s at %d", short(x), s), expLo, expHi, finerLo, finerHi, more)
		}
	}
	for i, f := range fractions() {
		num, den, s := fromBig(f.num), fromBig(f.den), 8+37*i
		lo, hi, _ := Atanh(num, den, s)
		for _, more := range steps() {
			finerLo, finerHi, _ := Atanh(num, den, s+more)
			inside(t, fmt.Sprintf("Atanh of fraction %d at %d", i, s), lo, hi, finerLo, finerHi, more)
		}
	}
}

func TestItFollowsAtBothEnds(t *testing.T) {
	lo, hi, _ := Ln2(8)
	finerLo, finerHi, _ := Ln2(9000)
	inside(t, "Ln2", lo, hi, finerLo, finerHi, 8992)
	lo, hi, _ = Atanh(nat.Of(2), nat.Of(7), 8)
	finerLo, finerHi, _ = Atanh(nat.Of(2), nat.Of(7), 9000)
	inside(t, "Atanh", lo, hi, finerLo, finerHi, 8992)
	lo, hi, _ = Exp(nat.Of(101), nat.Of(102), 8)
	finerLo, finerHi, _ = Exp(fromBig(new(big.Int).Lsh(big.NewInt(101), 8992)), fromBig(new(big.Int).Lsh(big.NewInt(102), 8992)), 9000)
	inside(t, "Exp", lo, hi, finerLo, finerHi, 8992)
}

// calls are all of the package that tell lists.
func calls(a, b []uint64, s int) map[string][2][]uint64 {
	atanhLo, atanhHi, _ := Atanh(a, b, s)
	expLo, expHi, _ := Exp(a, b, s)
	oneLo, oneHi, _ := Exp(a, a, s)
	lnLo, lnHi, _ := Ln2(s)
	i, n, one := Within(a, b, s, false), Within(a, b, s, true), Within(a, a, 0, true)
	return map[string][2][]uint64{"Atanh": {atanhLo, atanhHi}, "Exp": {expLo, expHi}, "Exp of one": {oneLo, oneHi}, "Ln2": {lnLo, lnHi},
		"Within": {i.Lo.M, i.Hi.M}, "Within, turned": {n.Lo.M, n.Hi.M}, "Within of one": {one.Lo.M, one.Hi.M}}
}

// roomy is a with spare room behind it, which no call may write to or hand out.
func roomy(a []uint64) (list, all []uint64) {
	all = append(slices.Clone(a), 77, 77)
	return all[:len(a)], all
}

func TestWhatIsHandedInStays(t *testing.T) {
	samples := [][]uint64{nil, {0}, {1}, {3}, {9, 0}, {full}, {0, 1}, {1, 3}, {full, 5, 0}, {full, 6}, {5, 0, 1}, {0, 0, 12, 0}}
	for _, a := range samples {
		for _, b := range samples {
			for _, s := range []int{-1, 8, 64, 200} {
				listA, allA := roomy(a)
				listB, allB := roomy(b)
				keptA, keptB := slices.Clone(allA), slices.Clone(allB)
				for what, told := range calls(listA, listB, s) {
					second := slices.Clone(told[1])
					all := told[0][:cap(told[0])]
					for i := range all {
						all[i] ^= full
					}
					if !slices.Equal(told[1], second) {
						t.Fatalf("R4: %s of %v and %v at %d: two answers share memory", what, a, b, s)
					}
					all = told[1][:cap(told[1])]
					for i := range all {
						all[i] ^= full
					}
					if !slices.Equal(allA, keptA) || !slices.Equal(allB, keptB) {
						t.Fatalf("R4: %s of %v and %v at %d changes or shares what is handed in", what, a, b, s)
					}
				}
			}
		}
	}
}

func TestTheSameAgain(t *testing.T) {
	lo, hi, _ := Ln2(700)
	atanhLo, atanhHi, _ := Atanh(nat.Of(1), nat.Of(7), 700)
	lo[0], hi[0] = 0, 0
	for range 3 {
		againLo, againHi, _ := Ln2(700)
		m := atanhOf(big.NewInt(1), big.NewInt(3), 701)
		between(t, "R6: Ln2", againLo, againHi, api.OK, meant{m.low, m.low}, meant{m.high, m.high}, 2*700+128)
		nextLo, nextHi, _ := Atanh([]uint64{1, 0}, []uint64{7, 0, 0}, 700)
		if !slices.Equal(nextLo, atanhLo) || !slices.Equal(nextHi, atanhHi) {
			t.Error("R6: Atanh tells something else of the same numbers")
		}
	}
}
