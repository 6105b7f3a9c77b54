package logs

import (
	"planimeter/dyad"
	"planimeter/nat"
	"planimeter/prod"
	"planimeter/series"
)

// At three halves of a power of two, the turn, Near goes over from 1/5 above that power to 1/7 below the next one. As
// both ways are summed apart, an end of something greater could be less there. So from the turn on no lower end is less
// than what the way below tells of the turn itself, and ahead of it no upper end is greater than what the way above tells.

const (
	turnAbove = 5 // the turn is 5 + 1 divided by 5 - 1 of the power below it
	turnBelow = 7 // and 7 - 1 divided by 7 + 1 of the power above it
)

// slack is in bits how many units off the turn no end can lie beyond it: two ends are together at most 4s + 256 off.
const slack = 20

// isAtTurn is whether a fraction is so near the turn that an end may lie beyond what the other way tells there.
func isAtTurn(num, den []uint64, neg bool, s int) bool {
	whole, _ := prod.Times(num, turn(neg))
	gap, _ := nat.Sub(den, whole)
	return nat.Bits(gap) == 0 || nat.Bits(gap)+s-slack <= nat.Bits(den)
}

func turn(neg bool) uint64 {
	if neg {
		return turnBelow
	}
	return turnAbove
}

// held is i, of which no end lies beyond what the other way tells of the turn.
func held(i series.I, e int, neg bool, s int) series.I {
	if neg {
		below, _ := sum(e-1, nat.Of(1), nat.Of(turnAbove), false, s)
		if dyad.Cmp(i.Lo, below.Lo) < 0 {
			i.Lo = below.Lo
		}
		return i
	}
	above, _ := sum(e+1, nat.Of(1), nat.Of(turnBelow), true, s)
	if dyad.Cmp(i.Hi, above.Hi) > 0 {
		i.Hi = above.Hi
	}
	return i
}
