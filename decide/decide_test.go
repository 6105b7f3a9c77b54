package decide

import (
	"fmt"
	"math"
	"math/big"
	"slices"
	"testing"

	"planimeter/api"
	"planimeter/dyad"
	"planimeter/float"
	"planimeter/series"
)

const full = math.MaxUint64

// deep is how far below 1 the samples reach that the tests hold against math/big; the last bit is for a little more.
const deep = 1400

var directions = []api.Dir{api.Near, api.Zero, api.Up, api.Down}

// strange are directions that are none.
var strange = []api.Dir{-1, 4, 5, 256, 1 << 32, math.MaxInt, math.MinInt}

// toBig is a list as a number of math/big, which the tests hold the package against.
func toBig(a []uint64) *big.Int {
	sum := new(big.Int)
	for i := len(a) - 1; i >= 0; i-- {
		sum.Lsh(sum, 64)
		sum.Or(sum, new(big.Int).SetUint64(a[i]))
	}
	return sum
}

// fromBig is the bare list of a number of math/big.
func fromBig(n *big.Int) []uint64 {
	rest := new(big.Int).Set(n)
	low, mask := new(big.Int), new(big.Int).SetUint64(full)
	var list []uint64
	for rest.Sign() > 0 {
		list = append(list, low.And(rest, mask).Uint64())
		rest.Rsh(rest, 64)
	}
	return list
}

// pow2 is 2^n.
func pow2(n int) *big.Int { return new(big.Int).Lsh(big.NewInt(1), uint(n)) }

// plus is n and m, which may be below 0.
func plus(n *big.Int, m int64) *big.Int { return new(big.Int).Add(n, big.NewInt(m)) }

// rolled is a number of a fixed rule, of just so many bits.
func rolled(seed uint64, count int) *big.Int {
	state, number := seed, new(big.Int)
	for range count/64 + 1 {
		state = state*6364136223846793005 + 1442695040888963407
		number.Lsh(number, 64).Or(number, new(big.Int).SetUint64(state^state>>29))
	}
	number.Mod(number, pow2(count-1))
	return number.SetBit(number, count-1, 1)
}

// end is n times 2^-deep, as it is handed in: mostly not bare.
func end(n *big.Int) dyad.D {
	return dyad.D{Neg: n.Sign() < 0, M: fromBig(new(big.Int).Abs(n)), E: -deep}
}

// between is from lo to hi, times 2^-deep.
func between(lo, hi *big.Int) series.I { return series.I{Lo: end(lo), Hi: end(hi)} }

// one is a dyad above 0 of one limb.
func one(m uint64, e int) dyad.D { return dyad.D{M: []uint64{m}, E: e} }

// minus is d with a sign, as it stands.
func minus(d dyad.D) dyad.D { return dyad.D{Neg: true, M: d.M, E: d.E} }

// point is from d to d, as it stands.
func point(d dyad.D) series.I { return series.I{Lo: d, Hi: d} }

// text is an interval, shortly.
func text(i series.I) string { return short(i.Lo) + " to " + short(i.Hi) }

func short(d dyad.D) string {
	sign := ""
	if d.Neg {
		sign = "-"
	}
	if len(d.M) <= 2 {
		return fmt.Sprintf("%s%v times 2^%d", sign, d.M, d.E)
	}
	// The first bits say where it lies.
	m := toBig(d.M)
	cut := m.BitLen() - 64
	return fmt.Sprintf("%s%x.. times 2^%d", sign, m.Rsh(m, uint(max(cut, 0))), d.E+max(cut, 0))
}

// worthOf is what bits without a sign are worth, times 2^deep; infinity is the power behind the greatest number.
func worthOf(b uint64) *big.Int {
	if b == float.Inf {
		return pow2(1024 + deep)
	}
	exponent, fraction := int(b>>52), new(big.Int).SetUint64(b%(1<<52))
	if exponent == 0 {
		return fraction.Lsh(fraction, deep-1074)
	}
	return fraction.Add(fraction, pow2(52)).Lsh(fraction, uint(exponent+deep-1075))
}

// floor is the greatest bits without a sign, up to infinity, that aren't worth more than n: searched for, not reckoned.
func floor(n *big.Int) uint64 {
	low, beyond := uint64(0), float.Inf+1
	for beyond-low > 1 {
		middle := low + (beyond-low)/2
		if worthOf(middle).Cmp(n) <= 0 {
			low = middle
		} else {
			beyond = middle
		}
	}
	return low
}

// middleOf is the middle of what b and the next bits are worth, times 2^deep.
func middleOf(b uint64) *big.Int {
	sum := new(big.Int).Add(worthOf(b), worthOf(b+1))
	return sum.Rsh(sum, 1)
}

// turns is whether n is a breakpoint.
func turns(n *big.Int) bool {
	b := floor(n)
	return worthOf(b).Cmp(n) == 0 || b < float.Inf && middleOf(b).Cmp(n) == 0
}

// wanted is what n above 0, times 2^-deep, with the sign, is rounded to, by the neighbours between which it lies.
func wanted(n *big.Int, neg bool, dir api.Dir) (uint64, api.Flags) {
	sign := uint64(0)
	if neg {
		sign = 1 << 63
	}
	outward := dir == api.Up && !neg || dir == api.Down && neg
	b := floor(n)
	if b == float.Inf {
		if dir == api.Near || outward {
			return sign | float.Inf, api.Overflow | api.Inexact
		}
		return sign | float.Max, api.Overflow | api.Inexact
	}
	if worthOf(b).Cmp(n) == 0 {
		return sign | b, 0
	}
	half := n.Cmp(middleOf(b))
	if outward || dir == api.Near && (half > 0 || half == 0 && b%2 == 1) {
		b++
	}
	flags := api.Inexact
	if n.Cmp(worthOf(1<<52)) < 0 {
		flags |= api.Underflow
	}
	if b == float.Inf {
		flags |= api.Overflow
	}
	return sign | b, flags
}

// edges are bits about which the samples lie.
func edges() []uint64 {
	return []uint64{0, 1, 2, 1<<52 - 1, 1 << 52, 1<<52 + 1, float.One - 1, float.One, float.One + 1, 0x4009_21FB_5444_2D18, float.Max - 1, float.Max, float.Inf}
}

// samples are numbers above 0, times 2^deep, in order: at, under and over breakpoints, and far beyond.
func samples() []*big.Int {
	list := []*big.Int{big.NewInt(2), pow2(deep - 1076), pow2(1024 + deep + 1), new(big.Int).Lsh(big.NewInt(3), 1030+deep)}
	for _, b := range edges() {
		breakpoints := []*big.Int{worthOf(b)}
		if b < float.Inf {
			breakpoints = append(breakpoints, middleOf(b))
		}
		for _, n := range breakpoints {
			// All are even: so a little more than one leads to none of the others.
			list = append(list, plus(n, -6), plus(n, -2), n, plus(n, 2), plus(n, 6))
		}
	}
	slices.SortFunc(list, (*big.Int).Cmp)
	first := slices.IndexFunc(list, func(n *big.Int) bool { return n.Sign() > 0 })
	return slices.CompactFunc(list[first:], func(a, b *big.Int) bool { return a.Cmp(b) == 0 })
}

// sides runs a test of both signs and all directions.
func sides(ask func(neg bool, dir api.Dir)) {
	for _, neg := range []bool{false, true} {
		for _, dir := range directions {
			ask(neg, dir)
		}
	}
}

// rounds holds an answer of Round against the one that was awaited; ok false stands for none.
func rounds(t *testing.T, i series.I, neg bool, dir api.Dir, want uint64, wantFlags api.Flags, wantOK bool) {
	t.Helper()
	b, flags, ok := Round(i, neg, dir)
	if b != want || flags != wantFlags || ok != wantOK {
		t.Errorf("P16.1: Round(%s, %v, %d): %x, %d, %v, not %x, %d, %v", text(i), neg, dir, b, flags, ok, want, wantFlags, wantOK)
	}
}

// loosely is as rounds, of Loose.
func loosely(t *testing.T, i series.I, neg bool, dir api.Dir, want uint64, wantFlags api.Flags, wantOK bool) {
	t.Helper()
	b, flags, ok := Loose(i, neg, dir)
	if b != want || flags != wantFlags || ok != wantOK {
		t.Errorf("P16.1: Loose(%s, %v, %d): %x, %d, %v, not %x, %d, %v", text(i), neg, dir, b, flags, ok, want, wantFlags, wantOK)
	}
}

// sample is a number of samples, asked once: a breakpoint, or what it is rounded to in each direction, with the sign and without.
type sample struct {
	n     *big.Int
	turns bool
	to    [2][4]answer
}

// all is what the samples are, each asked once of the tests' own reckoning.
func all() []sample {
	var list []sample
	for _, n := range samples() {
		one := sample{n: n, turns: turns(n)}
		sides(func(neg bool, dir api.Dir) {
			b, flags := wanted(n, neg, dir)
			one.to[side(neg)][dir] = answer{bits: b, flags: flags}
		})
		list = append(list, one)
	}
	return list
}

func side(neg bool) int {
	if neg {
		return 1
	}
	return 0
}

func TestExample(t *testing.T) {
	i := series.I{Lo: one(1<<60+1, -60), Hi: one(1<<60+2, -60)}
	rounds(t, i, false, api.Near, float.One, api.Inexact, true)
	rounds(t, i, true, api.Near, float.Sign|float.One, api.Inexact, true)
	rounds(t, i, false, api.Up, float.One+1, api.Inexact, true)
	rounds(t, i, true, api.Up, float.Sign|float.One, api.Inexact, true)
	rounds(t, i, false, api.Down, float.One, api.Inexact, true)
	rounds(t, i, true, api.Down, float.Sign|float.One+1, api.Inexact, true)
	rounds(t, i, true, api.Zero, float.Sign|float.One, api.Inexact, true)
}

func TestRoundOfAllSamples(t *testing.T) {
	list := all()
	for from, lo := range list {
		for _, hi := range list[from:] {
			i := between(lo.n, hi.n)
			sides(func(neg bool, dir api.Dir) {
				a, b := lo.to[side(neg)][dir], hi.to[side(neg)][dir]
				if lo.turns || hi.turns || a != b {
					a = answer{}
				}
				rounds(t, i, neg, dir, a.bits, a.flags, a != answer{})
			})
		}
	}
}

// None of the samples that decide is rounded to no bits and without flags, so that the test above can tell them apart.
func TestWhatDecidesIsInexact(t *testing.T) {
	for _, one := range all() {
		sides(func(neg bool, dir api.Dir) {
			_, flags, ok := Round(between(one.n, one.n), neg, dir)
			if ok == one.turns || ok && flags&api.Inexact == 0 {
				t.Errorf("P16.1: Round of %s: %d, %v", short(end(one.n)), flags, ok)
			}
		})
	}
}

func TestRoundOfOrdinaryOnes(t *testing.T) {
	decided, open := 0, 0
	for seed := range uint64(60) {
		lo := rolled(seed, 120)
		lo.Lsh(lo, uint(deep-150+int(seed*37%100)))
		// From much less than a unit to some units.
		for width := lo.BitLen() - 58; width < lo.BitLen()-50; width++ {
			hi := new(big.Int).Add(lo, pow2(width))
			i := between(lo, hi)
			sides(func(neg bool, dir api.Dir) {
				want, wantFlags := wanted(lo, neg, dir)
				other, otherFlags := wanted(hi, neg, dir)
				if want != other || wantFlags != otherFlags {
					open++
					rounds(t, i, neg, dir, 0, 0, false)
					return
				}
				decided++
				rounds(t, i, neg, dir, want, wantFlags, true)
			})
		}
	}
	if decided < 500 || open < 500 {
		t.Errorf("the test asks too little: %d, %d", decided, open)
	}
}

// The same bits with other flags don't decide: where numbers begin to be subnormal, and where they end.
func TestFlagsDecideToo(t *testing.T) {
	normal, bit := worthOf(1<<52), big.NewInt(1)
	i := between(new(big.Int).Sub(normal, bit), new(big.Int).Add(normal, bit))
	rounds(t, i, false, api.Near, 0, 0, false)
	rounds(t, i, true, api.Near, 0, 0, false)
	rounds(t, i, false, api.Down, 0, 0, false)
	greatest := between(plus(worthOf(float.Max), 1), plus(worthOf(float.Inf), 1))
	rounds(t, greatest, false, api.Zero, 0, 0, false)
	rounds(t, greatest, true, api.Up, 0, 0, false)
	rounds(t, greatest, false, api.Up, float.Inf, api.Overflow|api.Inexact, true)
	rounds(t, greatest, true, api.Down, float.Sign|float.Inf, api.Overflow|api.Inexact, true)
	rounds(t, greatest, false, api.Near, 0, 0, false)
	rounds(t, between(plus(middleOf(float.Max), 1), plus(worthOf(float.Inf), 1)), false, api.Near, float.Inf, api.Overflow|api.Inexact, true)
}

// Neither end may be a breakpoint, even where the interval is that alone, or rounded alike to both its sides.
func TestEndsAtBreakpoints(t *testing.T) {
	for _, b := range []uint64{1, 2, 1<<52 - 1, 1 << 52, float.One, float.Max} {
		for _, n := range []*big.Int{worthOf(b), middleOf(b)} {
			sides(func(neg bool, dir api.Dir) {
				rounds(t, between(n, n), neg, dir, 0, 0, false)
				rounds(t, between(n, plus(n, 1)), neg, dir, 0, 0, false)
				rounds(t, between(plus(n, -1), n), neg, dir, 0, 0, false)
			})
		}
	}
	two := point(one(1, 1024))
	sides(func(neg bool, dir api.Dir) {
		rounds(t, two, neg, dir, 0, 0, false)
		rounds(t, series.I{Lo: one(1, 1024), Hi: one(1, 1025)}, neg, dir, 0, 0, false)
	})
}

// A breakpoint within may be: to the nearest a number with both its sides.
func TestBreakpointsWithin(t *testing.T) {
	for _, b := range []uint64{1, 2, 1<<52 - 1, 1<<52 + 1, float.One, float.Max} {
		n := worthOf(b)
		flags := api.Inexact
		if b < 1<<52 {
			flags |= api.Underflow
		}
		rounds(t, between(plus(n, -1), plus(n, 1)), false, api.Near, b, flags, true)
		rounds(t, between(plus(n, -1), plus(n, 1)), true, api.Near, float.Sign|b, flags, true)
	}
}

func TestRoundOfFarOnes(t *testing.T) {
	little := series.I{Lo: one(1, -api.MaxExp), Hi: one(3, -1100)}
	great := series.I{Lo: one(3, 1023), Hi: one(1, api.MaxExp)}
	under, over := api.Underflow|api.Inexact, api.Overflow|api.Inexact
	rounds(t, little, false, api.Near, 0, under, true)
	rounds(t, little, true, api.Near, float.Sign, under, true)
	rounds(t, little, false, api.Up, 1, under, true)
	rounds(t, little, true, api.Down, float.Sign|1, under, true)
	rounds(t, little, true, api.Up, float.Sign, under, true)
	rounds(t, great, false, api.Near, float.Inf, over, true)
	rounds(t, great, true, api.Near, float.Sign|float.Inf, over, true)
	rounds(t, great, false, api.Down, float.Max, over, true)
	rounds(t, great, true, api.Zero, float.Sign|float.Max, over, true)
	sides(func(neg bool, dir api.Dir) {
		rounds(t, series.I{Lo: little.Lo, Hi: great.Hi}, neg, dir, 0, 0, false)
	})
	long := toBig(one(1, 0).M)
	long.Lsh(long, 70000)
	i := series.I{Lo: dyad.D{M: fromBig(plus(long, 1)), E: -70000}, Hi: dyad.D{M: fromBig(plus(long, 6)), E: -70000}}
	rounds(t, i, false, api.Near, float.One, api.Inexact, true)
	rounds(t, i, true, api.Down, float.Sign|float.One+1, api.Inexact, true)
}

func TestLooseOfAllSamples(t *testing.T) {
	list := samples()
	var more []sample
	for _, n := range list {
		one := sample{n: n}
		sides(func(neg bool, dir api.Dir) {
			b, flags := wanted(plus(n, 1), neg, dir)
			one.to[side(neg)][dir] = answer{bits: b, flags: flags}
		})
		more = append(more, one)
	}
	for from, lo := range more {
		for _, hi := range more[from:] {
			i := between(lo.n, hi.n)
			for _, neg := range []bool{false, true} {
				s := side(neg)
				outward, inward := api.Up, api.Down
				if neg {
					outward, inward = api.Down, api.Up
				}
				loosely(t, i, neg, api.Near, lo.to[s][api.Near].bits, lo.to[s][api.Near].flags, true)
				loosely(t, i, neg, outward, lo.to[s][outward].bits, lo.to[s][outward].flags, true)
				loosely(t, i, neg, inward, hi.to[s][inward].bits, hi.to[s][inward].flags, true)
				loosely(t, i, neg, api.Zero, hi.to[s][api.Zero].bits, hi.to[s][api.Zero].flags, true)
			}
		}
	}
}

func TestLooseAtBreakpoints(t *testing.T) {
	i := series.I{Lo: one(1, 0), Hi: one(3, 0)}
	three := uint64(0x4008000000000000)
	loosely(t, i, false, api.Near, float.One, api.Inexact, true)
	loosely(t, i, false, api.Up, float.One+1, api.Inexact, true)
	loosely(t, i, false, api.Down, three, api.Inexact, true)
	loosely(t, i, false, api.Zero, three, api.Inexact, true)
	loosely(t, i, true, api.Near, float.Sign|float.One, api.Inexact, true)
	loosely(t, i, true, api.Down, float.Sign|float.One+1, api.Inexact, true)
	loosely(t, i, true, api.Up, float.Sign|three, api.Inexact, true)
	loosely(t, i, true, api.Zero, float.Sign|three, api.Inexact, true)
	// A little more than a middle isn't as near to both.
	middle := point(one(1<<53+1, -53))
	loosely(t, middle, false, api.Near, float.One+1, api.Inexact, true)
	loosely(t, middle, true, api.Near, float.Sign|float.One+1, api.Inexact, true)
	loosely(t, point(one(1, 1024)), false, api.Zero, float.Max, api.Overflow|api.Inexact, true)
	loosely(t, point(one(1, -api.MaxExp)), true, api.Near, float.Sign, api.Underflow|api.Inexact, true)
	loosely(t, point(one(1, api.MaxExp)), true, api.Down, float.Sign|float.Inf, api.Overflow|api.Inexact, true)
}

// A narrow interval about a number leads to that, toward 0 and away from it, and to the nearest.
func TestLooseAboutANumber(t *testing.T) {
	for _, b := range []uint64{1, 2, 1<<52 - 1, 1 << 52, float.One, float.Max - 1, float.Max} {
		n := worthOf(b)
		sides(func(neg bool, dir api.Dir) {
			got, _, ok := Loose(between(plus(n, -2), plus(n, 1)), neg, dir)
			if !ok || got&^float.Sign != b || float.Neg(got) != neg {
				t.Errorf("P16.1: Loose about %x, %v, %d: %x, %v", b, neg, dir, got, ok)
			}
		})
	}
}

// noDyads are those that can't be bare.
func noDyads() []dyad.D {
	return []dyad.D{one(1, api.MaxExp+1), one(1, -api.MaxExp-1), one(2, api.MaxExp), one(4, -api.MaxExp-3), one(3, 1<<31), one(3, -1<<31), one(5, 1<<40),
		one(5, math.MaxInt), one(7, math.MinInt), {M: []uint64{0, 1}, E: api.MaxExp - 63}, {M: []uint64{1, 0, 0}, E: api.MaxExp + 1},
		minus(one(1, api.MaxExp+1)), minus(one(3, math.MaxInt)), minus(one(1, math.MinInt))}
}

// others are intervals that aren't right, or not above 0.
func others() []series.I {
	list := []series.I{{}, {Hi: one(1, 0)}, {Lo: dyad.D{M: []uint64{0, 0}, E: math.MaxInt}, Hi: one(1, -80)}, {Lo: dyad.D{Neg: true, M: []uint64{0}}, Hi: one(1, -80)},
		{Lo: minus(one(1, -1200)), Hi: one(1, -1200)}, {Lo: minus(one(3, 1)), Hi: one(3, 1)}, point(minus(one(3, -100))), {Lo: minus(one(5, -100)), Hi: minus(one(3, -100))},
		{Lo: minus(one(1<<60+2, -60)), Hi: minus(one(1<<60+1, -60))}, {Lo: minus(one(1, -1200))}, point(dyad.D{M: []uint64{0, 0, 0}, E: 7}),
		{Lo: minus(one(1, 1030)), Hi: minus(one(3, 1023))},
		// The lower end above the other.
		{Lo: one(1<<60+2, -60), Hi: one(1<<60+1, -60)}, {Lo: one(1, 0)}, {Lo: one(3, -1), Hi: one(11, -3)}, {Lo: one(1, 1030), Hi: one(3, 1023)},
		{Lo: one(3, -1100), Hi: one(1, -1100)}, {Lo: one(1, 0), Hi: minus(one(1, 0))}, {Lo: one(1, 1), Hi: one(1, 0)}}
	for _, d := range noDyads() {
		list = append(list, point(d), series.I{Lo: d}, series.I{Hi: d}, series.I{Lo: d, Hi: one(3, -1100)}, series.I{Lo: one(3, 1030), Hi: d}, series.I{Lo: one(1, 0), Hi: d},
			series.I{Lo: d, Hi: one(1, api.MaxExp)}, series.I{Lo: one(1, -api.MaxExp), Hi: d})
	}
	return list
}

func TestWhatIsNoIntervalAboveNought(t *testing.T) {
	for _, i := range others() {
		sides(func(neg bool, dir api.Dir) {
			rounds(t, i, neg, dir, 0, 0, false)
			loosely(t, i, neg, dir, 0, 0, false)
		})
	}
}

func TestStrangeDirections(t *testing.T) {
	for _, dir := range strange {
		for _, i := range []series.I{{Lo: one(1<<60+1, -60), Hi: one(1<<60+2, -60)}, {Lo: one(1, 0), Hi: one(3, 0)}, point(one(3, 1030)), point(one(3, -1100)), {}} {
			for _, neg := range []bool{false, true} {
				rounds(t, i, neg, dir, 0, 0, false)
				loosely(t, i, neg, dir, 0, 0, false)
			}
		}
	}
}

// It follows from P16.1 that all within is rounded so, and that what lies within decides the same.
func TestWhatIsWithin(t *testing.T) {
	list := all()
	decided := 0
	for from, lo := range list {
		for to, hi := range list[from:] {
			i := between(lo.n, hi.n)
			sides(func(neg bool, dir api.Dir) {
				b, flags, ok := Round(i, neg, dir)
				if !ok {
					return
				}
				decided++
				within(t, list[from:from+to+1], neg, dir, answer{bits: b, flags: flags})
			})
		}
	}
	if decided < 500 {
		t.Errorf("the test asks too little: %d", decided)
	}
}

// within holds all of a list's intervals against what the one from its first to its last decides.
func within(t *testing.T, list []sample, neg bool, dir api.Dir, want answer) {
	t.Helper()
	for n, lo := range list {
		if !lo.turns && lo.to[side(neg)][dir] != want {
			t.Errorf("P16.3: %s, %v, %d: %v, not %v", short(end(lo.n)), neg, dir, lo.to[side(neg)][dir], want)
		}
		for _, hi := range list[n:] {
			if lo.turns || hi.turns {
				continue
			}
			b, flags, ok := Round(between(lo.n, hi.n), neg, dir)
			if !ok || b != want.bits || flags != want.flags {
				t.Errorf("P16.3: Round(%s, %v, %d): %x, %d, %v", text(between(lo.n, hi.n)), neg, dir, b, flags, ok)
			}
		}
	}
}

// handed is an interval in lists with room behind, which are to stay as they are.
func handed() (series.I, []uint64, []uint64) {
	lo, hi := make([]uint64, 3, 9), make([]uint64, 3, 9)
	lo[0], lo[1], hi[0], hi[1] = 1<<60+1<<6, 1, 1<<60+1<<9, 1
	return series.I{Lo: dyad.D{M: lo, E: -64}, Hi: dyad.D{M: hi, E: -64}}, lo[:9], hi[:9]
}

func TestWhatIsHandedInStays(t *testing.T) {
	i, lo, hi := handed()
	loBefore, hiBefore := slices.Clone(lo), slices.Clone(hi)
	sides(func(neg bool, dir api.Dir) {
		Round(i, neg, dir)
		Loose(i, neg, dir)
		Gap(i)
	})
	if !slices.Equal(lo, loBefore) || !slices.Equal(hi, hiBefore) || i.Lo.Neg || i.Hi.Neg || i.Lo.E != -64 || i.Hi.E != -64 || len(i.Lo.M) != 3 || len(i.Hi.M) != 3 {
		t.Errorf("R4: what was handed in: %v, %v", lo, hi)
	}
}
