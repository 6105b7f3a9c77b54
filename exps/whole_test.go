package exps

import (
	"testing"

	"planimeter/nat"
)

// wholeOf is n as a size and a sign.
func wholeOf(n int) whole { return signed(n < 0, nat.Of(uint64(max(n, -n)))) }

// Split asks but for sizes that it knows to be above 0: the signs are held here.
func TestSizesWithSigns(t *testing.T) {
	for a := -5; a <= 5; a++ {
		for b := -5; b <= 5; b++ {
			want := wholeOf(a - b)
			if told := wholeOf(a).less(wholeOf(b)); told.neg != want.neg || nat.Cmp(told.size, want.size) != 0 {
				t.Errorf("%d less %d: %v %v", a, b, told.neg, told.size)
			}
			want = wholeOf(max(a, 0) * b)
			if told := times(wholeOf(max(a, 0)).size, b); told.neg != want.neg || nat.Cmp(told.size, want.size) != 0 {
				t.Errorf("%d times %d: %v %v", a, b, told.neg, told.size)
			}
		}
	}
	if nought := signed(true, nil); nought.neg {
		t.Error("0 is below 0")
	}
}
