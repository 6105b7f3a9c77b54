package decide

import (
	"math/big"
	"slices"
	"testing"

	"planimeter/api"
	"planimeter/dyad"
	"planimeter/float"
	"planimeter/series"
)

// gapped holds an answer of Gap against a number times 2^-deep; nil stands for none.
func gapped(t *testing.T, i series.I, want *big.Int) {
	t.Helper()
	d, ok := Gap(i)
	if want == nil {
		if ok || d.Neg || len(d.M) > 0 || d.E != 0 {
			t.Errorf("P16.2: Gap(%s): %s, %v, not 0, false", text(i), short(d), ok)
		}
		return
	}
	bare, err := dyad.Bare(end(want))
	if !ok || err != api.OK || d.Neg || d.E != bare.E || !slices.Equal(d.M, bare.M) {
		t.Errorf("P16.2: Gap(%s): %s, %v, not %s", text(i), short(d), ok, short(bare))
	}
}

// leastFrom is the least breakpoint that isn't below n; nil beyond 2^1024.
func leastFrom(n *big.Int) *big.Int {
	b := floor(n)
	switch {
	case worthOf(b).Cmp(n) == 0:
		return worthOf(b)
	case b == float.Inf:
		return nil
	case middleOf(b).Cmp(n) >= 0:
		return middleOf(b)
	}
	return worthOf(b + 1)
}

// nearly is whether the interval of two samples decides to the nearest.
func nearly(lo, hi sample) bool {
	return !lo.turns && !hi.turns && lo.to[0][api.Near] == hi.to[0][api.Near]
}

func TestGapExamples(t *testing.T) {
	middle := one(1<<53+1, -53)
	i := series.I{Lo: one(1<<60+1, -60), Hi: one(1<<60+1<<7+1, -60)}
	if d, ok := Gap(i); !ok || dyad.Cmp(d, middle) != 0 {
		t.Errorf("P16.2: Gap: %s, %v", short(d), ok)
	}
	if d, ok := Gap(point(one(1, 0))); !ok || dyad.Cmp(d, one(1, 0)) != 0 {
		t.Errorf("P16.2: Gap: %s, %v", short(d), ok)
	}
	if d, ok := Gap(series.I{Lo: one(3, -1), Hi: one(1<<40, 0)}); !ok || dyad.Cmp(d, one(3, -1)) != 0 {
		t.Errorf("P16.2: Gap: %s, %v", short(d), ok)
	}
}

func TestGapOfAllSamples(t *testing.T) {
	list := all()
	for from, lo := range list {
		want := leastFrom(lo.n)
		for _, hi := range list[from:] {
			i := between(lo.n, hi.n)
			if nearly(lo, hi) {
				gapped(t, i, nil)
				continue
			}
			gapped(t, i, want)
		}
	}
}

// What doesn't decide has a breakpoint, so that none is told just where it decides.
func TestGapIsToldWhereNothingDecides(t *testing.T) {
	list := all()
	for from, lo := range list {
		for _, hi := range list[from:] {
			i := between(lo.n, hi.n)
			_, _, decides := Round(i, true, api.Near)
			if _, ok := Gap(i); ok == decides {
				t.Errorf("P16.2: Gap(%s): %v", text(i), ok)
			}
		}
	}
}

func TestGapOfOrdinaryOnes(t *testing.T) {
	told, none := 0, 0
	for seed := range uint64(60) {
		lo := rolled(seed, 120)
		lo.Lsh(lo, uint(deep-150+int(seed*37%100)))
		for width := lo.BitLen() - 58; width < lo.BitLen()-50; width++ {
			hi := new(big.Int).Add(lo, pow2(width))
			a, _ := wanted(lo, false, api.Near)
			b, _ := wanted(hi, false, api.Near)
			if a == b {
				none++
				gapped(t, between(lo, hi), nil)
				continue
			}
			told++
			gapped(t, between(lo, hi), leastFrom(lo))
		}
	}
	if told < 100 || none < 100 {
		t.Errorf("the test asks too little: %d, %d", told, none)
	}
}

// A number with both its sides decides to the nearest: it isn't told, but with one step from it to the middle it is.
func TestGapAboutANumber(t *testing.T) {
	for _, b := range []uint64{1, 2, 1<<52 - 1, 1<<52 + 1, float.One, float.Max} {
		n := worthOf(b)
		gapped(t, between(plus(n, -1), plus(n, 1)), nil)
		gapped(t, between(plus(n, -1), n), n)
		gapped(t, between(n, plus(n, 1)), n)
		gapped(t, between(plus(n, -1), middleOf(b)), n)
		gapped(t, between(middleOf(b-1), plus(n, 1)), middleOf(b-1))
		gapped(t, between(plus(middleOf(b-1), 1), plus(n, 1)), nil)
	}
	// There it decides, but for the flags.
	normal := worthOf(1 << 52)
	gapped(t, between(plus(normal, -1), plus(normal, 1)), normal)
}

func TestGapAtTheEnds(t *testing.T) {
	least, greatest, power := middleOf(0), middleOf(float.Max), worthOf(float.Inf)
	gapped(t, between(big.NewInt(1), plus(least, -1)), nil)
	gapped(t, between(big.NewInt(1), least), least)
	gapped(t, between(big.NewInt(1), plus(power, 9)), least)
	gapped(t, between(plus(least, 1), plus(worthOf(1), 1)), nil)
	gapped(t, between(plus(least, 1), worthOf(1)), worthOf(1))
	gapped(t, between(plus(worthOf(float.Max), 1), plus(power, 1)), greatest)
	gapped(t, between(plus(greatest, 1), plus(power, -1)), nil)
	gapped(t, between(plus(greatest, 1), power), power)
	gapped(t, between(plus(greatest, 1), plus(power, 1)), nil)
	gapped(t, between(power, power), power)
	gapped(t, between(power, plus(power, 1)), power)
	gapped(t, between(plus(power, 1), plus(power, 1)), nil)
	gapped(t, between(plus(power, 1), new(big.Int).Lsh(power, 7)), nil)
	far := series.I{Lo: one(1, -api.MaxExp), Hi: one(1, api.MaxExp)}
	gapped(t, far, least)
	gapped(t, series.I{Lo: one(1, 1024), Hi: one(1, api.MaxExp)}, power)
	gapped(t, series.I{Lo: one(3, 1023), Hi: one(1, api.MaxExp)}, nil)
	gapped(t, point(one(1, api.MaxExp)), nil)
	gapped(t, point(one(1, -api.MaxExp)), nil)
}

// The lower end may be longer than what is told, and longer than numbers to be multiplied may be.
func TestGapOfLongOnes(t *testing.T) {
	const bits = 70000
	long := new(big.Int).Lsh(big.NewInt(1), bits)
	middle := new(big.Int).Add(long, new(big.Int).Rsh(long, 53))
	i := series.I{Lo: dyad.D{M: append(fromBig(plus(long, 1)), 0, 0), E: -bits}, Hi: dyad.D{M: append(fromBig(plus(middle, 1)), 0), E: -bits}}
	gapped(t, i, middleOf(float.One))
	i.Hi.M = fromBig(plus(middle, -1))
	gapped(t, i, nil)
	i.Lo.M, i.Hi.M = fromBig(plus(long, -1)), fromBig(middle)
	gapped(t, i, worthOf(float.One))
}

func TestGapOfWhatIsNoIntervalAboveNought(t *testing.T) {
	for _, i := range others() {
		gapped(t, i, nil)
	}
}

// spoil writes over a list and the room behind it.
func spoil(list []uint64) {
	list = list[:cap(list)]
	for i := range list {
		list[i] = 0xABCD
	}
}

func TestGapIsTheCallers(t *testing.T) {
	for _, d := range []dyad.D{one(5, -3), one(1<<53+1, -53), one(1, 1024), one(1, -1075), {M: []uint64{0, 1}, E: -64}} {
		i := point(d)
		before := slices.Clone(d.M)
		got, ok := Gap(i)
		if !ok || dyad.Cmp(got, d) != 0 {
			t.Errorf("P16.2: Gap(%s): %s, %v", text(i), short(got), ok)
		}
		spoil(got.M)
		if !slices.Equal(d.M, before) {
			t.Errorf("R4: Gap(%s) shares memory with what was handed in", text(i))
		}
		if again, _ := Gap(i); dyad.Cmp(again, d) != 0 {
			t.Errorf("R4: Gap(%s) shares memory with another answer", text(i))
		}
	}
}
