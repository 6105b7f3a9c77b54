package exps

import (
	"planimeter/dyad"
	"planimeter/nat"
	"planimeter/prod"
)

// whole is a whole number, as a size and a sign; 0 isn't neg.
type whole struct {
	neg  bool
	size []uint64
}

// signed keeps size's memory: it is for one that the call has just made.
func signed(neg bool, size []uint64) whole {
	return whole{neg: neg && len(size) > 0, size: size}
}

// side is to which whole number one between two goes.
type side bool

const (
	down side = false
	up   side = true
)

// at is the whole number next to d times 2^s on the side to, or that itself; d is an end, and s a scale.
func at(d dyad.D, s int, to side) whole {
	size, rest := moved(d.M, d.E+s)
	// Cut is toward 0: that is down from above it, and up from below.
	if rest && d.Neg == (to == down) {
		size = nat.Add(size, nat.Of(1))
	}
	return signed(d.Neg, size)
}

// moved is m times 2^n without rest, and whether there was one.
func moved(m []uint64, n int) ([]uint64, bool) {
	if n < 0 {
		return nat.Shr(m, -n)
	}
	// An end that isn't too great has at most a scale and some bits here: there is room.
	all, _ := nat.Shl(m, n)
	return all, false
}

// less is w less v.
func (w whole) less(v whole) whole {
	if w.neg != v.neg {
		return signed(w.neg, nat.Add(w.size, v.size))
	}
	if nat.Cmp(w.size, v.size) < 0 {
		size, _ := nat.Sub(v.size, w.size)
		return signed(!w.neg, size)
	}
	size, _ := nat.Sub(w.size, v.size)
	return signed(w.neg, size)
}

// times is k times a; both are so small that there is room.
func times(a []uint64, k int) whole {
	size, _ := prod.Times(a, uint64(max(k, -k)))
	return signed(k < 0, size)
}
