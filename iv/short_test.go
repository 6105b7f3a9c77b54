package iv

import (
	"fmt"
	"math"
	"math/big"
	"slices"
	"testing"

	"planimeter/api"
	"planimeter/dyad"
	"planimeter/series"
)

// cut is d times 2^at with so many bits, the next one on the side that is asked for.
func cut(d dyad.D, bits int, upwards bool, at int) *big.Int {
	m := worth(d, at)
	off := max(m.BitLen()-bits, 0)
	if upwards {
		m.Neg(m)
	}
	// Shifts to the right go down, below 0 as well.
	m.Rsh(m, uint(off)).Lsh(m, uint(off))
	if upwards {
		m.Neg(m)
	}
	return m
}

// someBits are both ends of what Short takes, those around limbs, and some between them.
func someBits() []int {
	return []int{1, 2, 3, 4, 8, 9, 10, 31, 52, 53, 54, 63, 64, 65, 127, 128, 129, 199, 200, 201, 332, 333, 334, 1000, 4095, 4096}
}

func TestShort(t *testing.T) {
	for _, bits := range someBits() {
		for _, i := range intervals() {
			got, err := Short(i, bits)
			is(t, fmt.Sprintf("P15.2: Short of %s to %d bits", text(i), bits), got, err, cut(i.Lo, bits, false, deep), cut(i.Hi, bits, true, deep), deep)
		}
	}
	for lo := int64(-40); lo <= 40; lo++ {
		for hi := lo; hi <= 40; hi++ {
			for bits := 1; bits < 8; bits++ {
				i := from(lo, hi)
				got, err := Short(i, bits)
				is(t, fmt.Sprintf("P15.2: Short of %s to %d bits", text(i), bits), got, err, cut(i.Lo, bits, false, 0), cut(i.Hi, bits, true, 0), 0)
			}
		}
	}
}

func TestShortAsWritten(t *testing.T) {
	cases := []struct {
		i    series.I
		bits int
		want series.I
	}{
		{from(-1001, 1001), 3, from(-1024, 1024)}, {from(0, 1001), 8, from(0, 1004)}, {from(-1001, 0), 8, from(-1004, 0)}, {from(1001, 1001), 3, from(896, 1024)},
		{from(-1001, -1001), 3, from(-1024, -896)}, {from(5, 1001), 2, from(4, 1024)}, {from(5, 1001), 3, from(5, 1024)}, {from(-1001, -5), 2, from(-1024, -4)},
		{from(5, 7), 1, from(4, 8)}, {from(-7, -5), 1, from(-8, -4)}, {from(4, 8), 1, from(4, 8)}, {from(0, 0), 1, from(0, 0)}, {from(0, 0), 4096, from(0, 0)},
		{from(-7, 5), 2, from(-8, 6)}, {series.I{Lo: small(5, -90), Hi: small(5, 90)}, 2, series.I{Lo: small(1, -88), Hi: small(3, 91)}},
	}
	for _, c := range cases {
		got, err := Short(c.i, c.bits)
		isJust(t, fmt.Sprintf("P15.2: Short of %s to %d bits", text(c.i), c.bits), got, err, c.want)
	}
}

// An end may have 4096 bits more than are asked for, and no more.
func TestShortLong(t *testing.T) {
	for _, bits := range []int{1, 2, 53, 64, 4095, 4096} {
		for _, e := range []int{0, -5000, 77, api.MaxExp - 70000, -api.MaxExp} {
			just, long := number(ones(bits+4096), e), number(ones(bits+4097), e)
			tail := number(new(big.Int).Add(pow2(bits+4096), big.NewInt(1)), e)
			what := fmt.Sprintf("P15.2: Short of long ends times 2^%d to %d bits", e, bits)
			got, err := Short(At(just), bits)
			isJust(t, what, got, err, series.I{Lo: number(ones(bits), e+4096), Hi: small(1, e+4096+bits)})
			got, err = Short(At(dyad.Minus(just)), bits)
			isJust(t, what, got, err, series.I{Lo: small(-1, e+4096+bits), Hi: number(new(big.Int).Neg(ones(bits)), e+4096)})
			for _, far := range []dyad.D{long, tail, number(rolled(9, 66000), e)} {
				for _, i := range []series.I{{Lo: far, Hi: far}, {Hi: far}, {Lo: dyad.Minus(far)}, {Lo: dyad.Minus(far), Hi: just}, {Lo: dyad.Minus(just), Hi: far}} {
					got, err := Short(i, bits)
					refused(t, what, got, err, api.ErrLong)
				}
			}
		}
	}
	// Noughts at the low end of a list are none of its bits.
	for _, low := range []int{4097, 5000, 70000} {
		for _, bits := range []int{1, 2, 3, 53, 4096} {
			d := number(new(big.Int).Lsh(big.NewInt(3), uint(low)), -low-5)
			minus := dyad.Minus(d)
			minus.M, minus.E = d.M, d.E
			got, err := Short(series.I{Lo: minus, Hi: d}, bits)
			want := small(3, -5)
			if bits == 1 {
				want = small(4, -5)
			}
			isJust(t, fmt.Sprintf("P15.2: Short of 3 with %d noughts to %d bits", low, bits), got, err, series.I{Lo: dyad.Minus(want), Hi: want})
		}
	}
}

// Rounding goes as far as dyads go, and ends where they end.
func TestShortFarOut(t *testing.T) {
	for _, e := range []int{1 << 29, 1<<29 + 1, 1<<29 + 5000, 1<<30 - 10, 1<<30 - 3} {
		for _, e := range []int{e, -e} {
			for bits, want := range map[int]series.I{1: {Lo: small(1, e+2), Hi: small(1, e+3)}, 2: {Lo: small(3, e+1), Hi: small(1, e+3)}, 3: At(small(7, e)), 4096: At(small(7, e))} {
				got, err := Short(At(small(7, e)), bits)
				isJust(t, fmt.Sprintf("P15.2: Short of 7 times 2^%d to %d bits", e, bits), got, err, want)
				got, err = Short(At(small(-7, e)), bits)
				isJust(t, fmt.Sprintf("P15.2: Short of -7 times 2^%d to %d bits", e, bits), got, err, series.I{Lo: dyad.Minus(want.Hi), Hi: dyad.Minus(want.Lo)})
			}
		}
	}
	for _, e := range []int{api.MaxExp, -api.MaxExp} {
		for _, m := range []int64{1, -1} {
			for _, bits := range []int{1, 53, 4096} {
				got, err := Short(At(small(m, e)), bits)
				isJust(t, fmt.Sprintf("P15.2: Short of %d times 2^%d to %d bits", m, e, bits), got, err, At(small(m, e)))
			}
		}
	}
	three := small(3, api.MaxExp)
	for _, i := range []series.I{At(three), {Hi: three}, {Lo: dyad.Minus(three)}, {Lo: small(3, api.MaxExp-1), Hi: three}, {Lo: dyad.Minus(three), Hi: three}} {
		got, err := Short(i, 1)
		refused(t, "P15.2: Short of "+text(i)+" to 1 bit", got, err, api.ErrLong)
		got, err = Short(i, 2)
		isJust(t, "P15.2: Short of "+text(i)+" to 2 bits", got, err, i)
	}
}

func TestShortWrongBits(t *testing.T) {
	for _, bits := range []int{math.MinInt, math.MinInt + 1, -4096, -1, 0, 4097, 4098, 1 << 31, 1 << 32, 1<<32 + 1, math.MaxInt - 1, math.MaxInt} {
		for _, i := range []series.I{{}, from(0, 0), from(1, 1), from(-1001, 1001), At(small(1, api.MaxExp)), At(number(ones(9000), 0))} {
			got, err := Short(i, bits)
			refused(t, fmt.Sprintf("P15.2: Short of %s to %d bits", text(i), bits), got, err, api.ErrArg)
		}
	}
}

// parts are some numbers in an interval: its ends, and some between them.
func parts(i series.I) []dyad.D {
	middle, _ := dyad.Add(i.Lo, i.Hi)
	middle, _ = dyad.Scale(middle, -1)
	wide, _ := Wide(i)
	third, _ := dyad.Mul(wide, small(341, -10))
	third, _ = dyad.Add(i.Lo, third)
	return []dyad.D{i.Lo, third, middle, i.Hi}
}

func TestWhatIsInTwoIsInTheirSumAndProduct(t *testing.T) {
	all := intervals()
	for _, i := range some(all, 9) {
		for _, k := range some(all, 11) {
			sums, _ := Add(i, k)
			products, _ := Mul(i, k)
			for _, a := range parts(i) {
				scaled, _ := Times(k, a)
				if !Inside(scaled, products) {
					t.Errorf("P15.3: Times of %s and %s isn't in the products", text(k), end(a))
				}
				for _, b := range parts(k) {
					sum, wrong := dyad.Add(a, b)
					product, err := dyad.Mul(a, b)
					if wrong != api.OK || err != api.OK || !Has(sums, sum) || !Has(products, product) || !Has(scaled, product) {
						t.Errorf("P15.3: %s and %s, of %s and %s", end(a), end(b), text(i), text(k))
					}
				}
			}
		}
	}
}

func TestShortHasAllAndIsNotShorterTwice(t *testing.T) {
	list := append(intervals(), series.I{Lo: number(rolled(1, 4097), -5000), Hi: number(rolled(2, 4097), 900)}, At(number(ones(4097), -4097)),
		series.I{Lo: number(new(big.Int).Neg(rolled(3, 4000)), 0), Hi: number(rolled(4, 3000), 1000)})
	for _, bits := range someBits() {
		for _, i := range list {
			what := fmt.Sprintf("P15.3: Short of %s to %d bits", text(i), bits)
			once, err := Short(i, bits)
			if err != api.OK || !Inside(i, once) {
				t.Errorf("%s: %s, %d: it hasn't all of it", what, text(once), err)
			}
			twice, err := Short(once, bits)
			isJust(t, what, twice, err, once)
			// What has more bits is no wider.
			finer, err := Short(i, min(bits+1, mostBits))
			if err != api.OK || !Inside(finer, once) {
				t.Errorf("%s: with one bit more it isn't in it: %s, %d", what, text(finer), err)
			}
		}
	}
}

// roomy is d with a list that has room behind its end, and all of that.
func roomy(d dyad.D) (dyad.D, []uint64) {
	all := append(slices.Clone(d.M), 0, 0, 77, 77)
	d.M = all[: len(d.M)+2 : len(all)]
	return d, all
}

// spoil writes over all of a list, and over the room behind it.
func spoil(list []uint64) {
	list = list[:cap(list)]
	for n := range list {
		list[n] = 0xDEAD
	}
}

// calls is all lists that calls tell of two intervals, by name.
func calls(i, k series.I) [][]uint64 {
	at, wide := At(i.Lo), dyad.D{}
	sum, _ := Add(i, k)
	times, _ := Times(i, k.Hi)
	product, _ := Mul(i, k)
	short, _ := Short(i, 2)
	longer, _ := Short(i, 4096)
	wide, _ = Wide(i)
	Right(i)
	Has(i, k.Lo)
	Inside(i, k)
	return [][]uint64{at.Lo.M, at.Hi.M, sum.Lo.M, sum.Hi.M, times.Lo.M, times.Hi.M, product.Lo.M, product.Hi.M, short.Lo.M, short.Hi.M, longer.Lo.M, longer.Hi.M, wide.M}
}

func copies(lists [][]uint64) [][]uint64 {
	var kept [][]uint64
	for _, list := range lists {
		kept = append(kept, slices.Clone(list))
	}
	return kept
}

func TestWhatIsHandedInStays(t *testing.T) {
	list := []series.I{from(0, 0), from(3, 3), from(-3, 5), from(0, 7), At(number(rolled(5, 200), -9)), {Lo: number(ones(130), -200), Hi: number(ones(130), 3)},
		{Lo: small(12, -2), Hi: dyad.D{M: []uint64{0, 4}, E: -60}}, At(small(5, api.MaxExp+1))}
	for _, i := range list {
		for _, k := range list {
			var all [4][]uint64
			var a, b series.I
			a.Lo, all[0] = roomy(i.Lo)
			a.Hi, all[1] = roomy(i.Hi)
			b.Lo, all[2] = roomy(k.Lo)
			b.Hi, all[3] = roomy(k.Hi)
			before := copies(all[:])
			first := copies(calls(a, b))
			told := calls(a, b)
			// Each list that is told is spoiled in turn: neither those handed in nor those behind it may see it.
			for n := range told {
				if !slices.Equal(told[n], first[n]) {
					t.Errorf("R4: of %s and %s list %d shares what was told ahead of it", text(i), text(k), n)
				}
				spoil(told[n])
			}
			for n := range all {
				if !slices.Equal(all[n], before[n]) {
					t.Errorf("R4: of %s and %s list %d that was handed in is another", text(i), text(k), n)
				}
			}
		}
	}
}

// An interval may be handed in twice, and with one list for both ends.
func TestOneWithItself(t *testing.T) {
	d := number(rolled(8, 300), -100)
	i := series.I{Lo: d, Hi: d}
	m := worth(d, 100)
	sum, err := Add(i, i)
	is(t, "P15.1: Add of one with itself", sum, err, new(big.Int).Lsh(m, 1), new(big.Int).Lsh(m, 1), 100)
	square := new(big.Int).Mul(m, m)
	product, err := Mul(i, i)
	is(t, "P15.1: Mul of one with itself", product, err, square, square, 200)
	if !Inside(i, i) || !Has(i, d) || worth(d, 100).Cmp(m) != 0 {
		t.Error("P15.1: one in itself")
	}
}
