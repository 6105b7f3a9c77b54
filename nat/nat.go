// Package nat is layer 1, natural numbers of any size: see shared/doc/01-nat.md.
package nat

import (
	"math/bits"

	"planimeter/api"
)

// limbBits is how many bits one limb holds.
const limbBits = 64

// trim shares a's memory: it is for reading an argument, and for the memory that a call has just made.
func trim(a []uint64) []uint64 {
	n := len(a)
	for n > 0 && a[n-1] == 0 {
		n--
	}
	return a[:n]
}

// Bare is the same number without leading noughts, in memory of its own.
func Bare(a []uint64) []uint64 {
	a = trim(a)
	bare := make([]uint64, len(a))
	copy(bare, a)
	return bare
}

// Of is n as a natural number.
func Of(n uint64) []uint64 {
	if n == 0 {
		return nil
	}
	return []uint64{n}
}

// Small is a as one limb, and whether it fits in one.
func Small(a []uint64) (uint64, bool) {
	a = trim(a)
	switch len(a) {
	case 0:
		return 0, true
	case 1:
		return a[0], true
	}
	return 0, false
}

// Cmp is -1, 0 or 1, as a is less than b, the same, or greater.
func Cmp(a, b []uint64) int {
	a, b = trim(a), trim(b)
	if len(a) != len(b) {
		return order(len(a) < len(b))
	}
	for i := len(a) - 1; i >= 0; i-- {
		if a[i] != b[i] {
			return order(a[i] < b[i])
		}
	}
	return 0
}

// order is what Cmp tells of two that differ.
func order(less bool) int {
	if less {
		return -1
	}
	return 1
}

// Add is the sum.
func Add(a, b []uint64) []uint64 {
	a, b = trim(a), trim(b)
	if len(a) < len(b) {
		a, b = b, a
	}
	sum := make([]uint64, len(a)+1)
	carry := uint64(0)
	for i, limb := range a {
		sum[i], carry = bits.Add64(limb, at(b, i), carry)
	}
	sum[len(a)] = carry
	return trim(sum)
}

// Sub is a less b; ErrArg, if a is less than b.
func Sub(a, b []uint64) ([]uint64, api.Errno) {
	a, b = trim(a), trim(b)
	if Cmp(a, b) < 0 {
		return nil, api.ErrArg
	}
	left := make([]uint64, len(a))
	borrow := uint64(0)
	for i, limb := range a {
		left[i], borrow = bits.Sub64(limb, at(b, i), borrow)
	}
	return trim(left), api.OK
}

// at takes a number as going on with noughts above its last limb.
func at(a []uint64, i int) uint64 {
	if i < len(a) {
		return a[i]
	}
	return 0
}

// Shl is a times 2^n; ErrArg of n below 0, ErrLong of more than MaxBits bits.
func Shl(a []uint64, n int) ([]uint64, api.Errno) {
	if n < 0 {
		return nil, api.ErrArg
	}
	a = trim(a)
	if len(a) == 0 {
		return nil, api.OK
	}
	// The limit is held against n alone: n may be so great that nothing can be added to it.
	if n > api.MaxBits-Bits(a) {
		return nil, api.ErrLong
	}
	whole, part := n/limbBits, uint(n%limbBits)
	moved := make([]uint64, whole+len(a)+1)
	for i, limb := range a {
		// With no part the second shift is by all 64 bits, and leaves 0.
		moved[whole+i] |= limb << part
		moved[whole+i+1] = limb >> (limbBits - part)
	}
	return trim(moved), api.OK
}

// Shr is a divided by 2^n without rest, and whether there was one; n below 0 is as 0.
func Shr(a []uint64, n int) ([]uint64, bool) {
	a = trim(a)
	n = max(n, 0)
	whole, part := n/limbBits, uint(n%limbBits)
	if whole >= len(a) {
		return nil, len(a) > 0
	}
	moved := make([]uint64, len(a)-whole)
	for i := range moved {
		moved[i] = a[whole+i]>>part | at(a, whole+i+1)<<(limbBits-part)
	}
	return trim(moved), Low(a) < n
}

// Bits is how many bits a has, 0 of 0.
func Bits(a []uint64) int {
	a = trim(a)
	if len(a) == 0 {
		return 0
	}
	last := len(a) - 1
	return last*limbBits + bits.Len64(a[last])
}

// Low is how often a can be halved without rest, 0 of 0.
func Low(a []uint64) int {
	for i, limb := range a {
		if limb != 0 {
			return i*limbBits + bits.TrailingZeros64(limb)
		}
	}
	return 0
}

// Odd is whether halving a leaves a rest.
func Odd(a []uint64) bool {
	return len(a) > 0 && a[0]&1 == 1
}
