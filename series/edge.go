package series

import (
	"planimeter/nat"
	"planimeter/prod"
	"planimeter/quo"
)

// guard is how many bits are reckoned beyond the scale: what some thousand steps cut is far less than 2^guard, so
// that both ends lie next to what is meant.
const guard = 64

// edge is the end that a sum is reckoned for: each step is cut down for the lower one, up for the upper one.
//
// So what is told at a greater scale lies in what is told at a lesser one. With one bit more a step cut down is at
// least twice what it was, a step cut up at most; and the upper sum gets one term more at most, that is at most 2 and
// ends at 1: 2, and twice 1 for all that is left out, is twice the 2 that was left out before.
type edge bool

const (
	lower edge = false
	upper edge = true
)

// atanh is that of num divided by den, times 2^s.
func (e edge) atanh(num, den []uint64, s int) []uint64 {
	return e.told(e.odds(num, den, s+guard))
}

// odds is r + r^3/3 + r^5/5 and so on, times 2^w, ahead of the first power that is at most 1; and that power. r is at
// most 1/3, so that all powers from the last one on are less than twice that one.
func (e edge) odds(num, den []uint64, w int) (sum, last []uint64) {
	// The longest numbers are a square of 4096 bits and a power of some 9100, which have room.
	up, _ := prod.Mul(num, num)
	down, _ := prod.Mul(den, den)
	last, _ = nat.Shl(num, w)
	last = e.over(last, den)
	for k := uint64(1); nat.Bits(last) > 1; k += 2 {
		sum = nat.Add(sum, e.over(last, nat.Of(k)))
		last, _ = prod.Mul(last, up)
		last = e.over(last, down)
	}
	return sum, last
}

// exp is that of x divided by 2^s, times 2^s.
func (e edge) exp(x []uint64, s int) []uint64 {
	return e.told(e.powers(nat.Bare(x), s, s+guard))
}

// powers is 1 + r + r^2/2 + r^3/6 and so on, r being x divided by 2^s, times 2^w, ahead of the first term that is at
// most 1; and that term. r is at most 1, so that all terms from the last one on (there is a 1 ahead of it) are less
// than twice that one.
func (e edge) powers(x []uint64, s, w int) (sum, last []uint64) {
	last = power(w)
	for k := uint64(1); nat.Bits(last) > 1; k++ {
		sum = nat.Add(sum, last)
		// Both have some 9100 bits at most: there is room.
		last, _ = prod.Mul(last, x)
		last = e.over(e.halved(last, s), nat.Of(k))
	}
	return sum, last
}

// told lays what was left out, at most twice the last term, onto the upper end's sum alone, and takes the guard off.
func (e edge) told(sum, last []uint64) []uint64 {
	if e == upper {
		sum = prod.Sum([][]uint64{sum, last, last})
	}
	return e.halved(sum, guard)
}

// over is a divided by b, which isn't 0.
func (e edge) over(a, b []uint64) []uint64 {
	if e == upper {
		least, _ := quo.Up(a, b)
		return least
	}
	quotient, _, _ := quo.Div(a, b)
	return quotient
}

// halved is a divided by 2^n.
func (e edge) halved(a []uint64, n int) []uint64 {
	quotient, rest := nat.Shr(a, n)
	if e == upper && rest {
		return nat.Add(quotient, nat.Of(1))
	}
	return quotient
}
