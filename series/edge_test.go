package series

import (
	"fmt"
	"math/big"
	"testing"

	"planimeter/nat"
)

// Without the guard the ends are so rough that a step that is cut the wrong way is seen.

// rough is both ends, without a guard, of a sum that reckon tells for one end.
func rough(reckon func(e edge) (sum, last []uint64)) (lo, hi []uint64) {
	lo, _ = reckon(lower)
	sum, last := reckon(upper)
	return lo, nat.Add(sum, nat.Add(last, last))
}

func roughAtanh(num, den int64, w int) (lo, hi []uint64) {
	return rough(func(e edge) (sum, last []uint64) {
		return e.odds(nat.Of(uint64(num)), nat.Of(uint64(den)), w)
	})
}

func roughExp(x int64, s, w int) (lo, hi []uint64) {
	return rough(func(e edge) (sum, last []uint64) { return e.powers(nat.Of(uint64(x)), s, w) })
}

func TestRoughAtanh(t *testing.T) {
	for den := int64(3); den < 60; den++ {
		for num := int64(1); 3*num <= den; num++ {
			for w := 1; w < 40; w++ {
				what := fmt.Sprintf("P12.1: %d/%d with %d bits", num, den, w)
				lo, hi := roughAtanh(num, den, w)
				m := atanhOf(big.NewInt(num), big.NewInt(den), w)
				between(t, what, lo, hi, 0, m, m, w+64)
				finerLo, finerHi := roughAtanh(num, den, w+1)
				inside(t, what, lo, hi, finerLo, finerHi, 1)
			}
		}
	}
}

func TestRoughExp(t *testing.T) {
	for s := 8; s < 11; s++ {
		for x := int64(1); x <= 1<<s; x++ {
			for w := 3; w < 40; w += 4 {
				what := fmt.Sprintf("P12.2: %d and %d with %d bits", x, s, w)
				lo, hi := roughExp(x, s, w)
				m := expOf(new(big.Int).Lsh(big.NewInt(x), uint(w)), w+s)
				m.low.Rsh(m.low, uint(s))
				m.high.Add(m.high.Rsh(m.high, uint(s)), big.NewInt(1))
				between(t, what, lo, hi, 0, m, m, 4*w+64)
				finerLo, finerHi := roughExp(x, s, w+1)
				inside(t, what, lo, hi, finerLo, finerHi, 1)
			}
		}
	}
}

func TestTellsNextToWhatIsMeant(t *testing.T) {
	for _, s := range scales() {
		lnLo, lnHi, _ := Ln2(s)
		expLo, expHi, _ := Exp(fromBig(pow2(s)), fromBig(pow2(s)), s)
		for _, ends := range [][2][]uint64{{lnLo, lnHi}, {expLo, expHi}} {
			if wide, err := nat.Sub(ends[1], ends[0]); err != 0 || nat.Cmp(wide, nat.Of(2)) > 0 {
				t.Errorf("the guard: %v wide at %d", wide, s)
			}
		}
	}
}
