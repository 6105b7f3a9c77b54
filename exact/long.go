package exact

import (
	"math/bits"
	"slices"

	"planimeter/nat"
)

// long is the k-th root of an odd number that counts, of whatever length; false, if it isn't whole.
// Such a root has at most 54 bits: the number's first bits name the only one that can be, and taking it out
// k times shows whether it is.
func long(odd []uint64, k int) ([]uint64, bool) {
	r := guess(odd, k)
	return nat.Of(r), isPower(odd, r, k)
}

// guess is the greatest r below 2^54 whose power, cut, isn't above the number. Cut, a power isn't above the true
// one, and it is less than k times 2^-62 of it below; the power of r and 1 is more than k times 2^-54 of it above
// that of r: so a whole root isn't missed, and no other is taken for it.
func guess(odd []uint64, k int) uint64 {
	limit := leadOf(odd)
	r := uint64(0)
	for bit := uint64(1) << (mostBits - 1); bit > 0; bit >>= 1 {
		if !leadOf([]uint64{r | bit}).power(k).above(limit) {
			r |= bit
		}
	}
	return r
}

// lead is m times 2^e, m's first bit being set: a number's first 64 bits, those behind them cut off.
type lead struct {
	m uint64
	e int
}

// leadOf is that of a number above 0.
func leadOf(a []uint64) lead {
	behind := nat.Bits(a) - 64
	first, _ := nat.Shr(a, max(behind, 0))
	return lead{m: first[0] << max(-behind, 0), e: behind}
}

// times is the product, cut again.
func (a lead) times(b lead) lead {
	high, low := bits.Mul64(a.m, b.m)
	if high>>63 == 1 {
		return lead{m: high, e: a.e + b.e + 64}
	}
	return lead{m: high<<1 | low>>63, e: a.e + b.e + 63}
}

// power is a to the power k, at least 1, cut at each step; a greater a's is never less.
func (a lead) power(k int) lead {
	p := a
	for i := bits.Len(uint(k)) - 2; i >= 0; i-- {
		p = p.times(p)
		if k>>i&1 == 1 {
			p = p.times(a)
		}
	}
	return p
}

func (a lead) above(b lead) bool {
	if a.e != b.e {
		return a.e > b.e
	}
	return a.m > b.m
}

// isPower takes r out of the number k times, as many of them at once as a limb holds: 1 must be left.
func isPower(odd []uint64, r uint64, k int) bool {
	left := slices.Clone(odd)
	for k > 0 {
		word, many := packed(r, k)
		if !divide(left, word) {
			return false
		}
		if left[len(left)-1] == 0 {
			left = left[:len(left)-1]
		}
		k -= many
	}
	return nat.Bits(left) == 1
}

// packed is the greatest power of r up to the k-th that a limb holds, and the how-manieth that is.
func packed(r uint64, k int) (uint64, int) {
	word, many := r, 1
	for many < k {
		high, low := bits.Mul64(word, r)
		if high > 0 {
			break
		}
		word, many = low, many+1
	}
	return word, many
}

// divide leaves the quotient in a, which is isPower's own; false of a rest.
func divide(a []uint64, word uint64) bool {
	rest := uint64(0)
	for i := len(a) - 1; i >= 0; i-- {
		a[i], rest = bits.Div64(rest, a[i], word)
	}
	return rest == 0
}
