package budget

import (
	"fmt"
	"math"
	"testing"
	"time"

	"planimeter/api"
)

// plain is a budget as the chapter's words say it, without a channel: the tests hold the package against it.
type plain struct {
	most, left int
	shut       bool
}

func (p *plain) take() int {
	if p.shut || p.left == 0 {
		return 0
	}
	p.left--
	return 1
}

func (p *plain) takeAll(n int) int {
	if p.shut || n < 1 {
		return 0
	}
	taken := min(n, p.left)
	p.left -= taken
	return taken
}

func (p *plain) give() int {
	if p.left == p.most {
		return 0
	}
	p.left++
	return 1
}

func (p *plain) close() int {
	if p.shut {
		return 0
	}
	p.shut = true
	return 1
}

// bit is 1 of true, so that all that is told can be held against each other as numbers.
func bit(b bool) int {
	if b {
		return 1
	}
	return 0
}

// act is something that is done to a budget, and to a plain one.
type act struct {
	name  string
	real  func(*Budget) int
	plain func(*plain) int
}

// taking is TakeAll of so many.
func taking(n int) act {
	return act{
		name:  fmt.Sprintf("TakeAll(%d)", n),
		real:  func(b *Budget) int { return b.TakeAll(n) },
		plain: func(p *plain) int { return p.takeAll(n) },
	}
}

// acts are all that can be done to a budget.
func acts() []act {
	return []act{
		{"Take", func(b *Budget) int { return bit(b.Take()) }, (*plain).take},
		{"Give", func(b *Budget) int { return bit(b.Give()) }, (*plain).give},
		{"Shut", func(b *Budget) int { return bit(b.Shut()) }, (*plain).close},
		taking(-1), taking(0), taking(2), taking(3),
	}
}

// made is a new budget, which must be one.
func made(t *testing.T, most int) *Budget {
	t.Helper()
	b, err := New(most)
	if err != api.OK || b == nil {
		t.Fatalf("P17.1: New(%d): %v, error %d", most, b, err)
	}
	return b
}

// soon fails the test, if what it does doesn't end: a channel that isn't asked by select would wait without an end.
func soon(t *testing.T, do func()) {
	t.Helper()
	done := make(chan struct{})
	go func() {
		defer close(done)
		do()
	}()
	select {
	case <-done:
	case <-time.After(20 * time.Second):
		t.Fatal("R1: a call doesn't end")
	}
}

// same holds what is to be seen of a budget against the plain one.
func same(t *testing.T, done string, b *Budget, p plain) {
	t.Helper()
	if b.Left() != p.left {
		t.Errorf("P17.1: behind %s: Left %d, want %d", done, b.Left(), p.left)
	}
	if b.Open() == p.shut {
		t.Errorf("P17.1: behind %s: Open %v", done, b.Open())
	}
}

func TestNew(t *testing.T) {
	for _, most := range []int{0, 1, 2, 3, 100, 4095, 4096} {
		soon(t, func() {
			b := made(t, most)
			same(t, "New", b, plain{most: most, left: most})
			if b.Give() {
				t.Errorf("P17.1: New(%d) isn't full", most)
			}
			same(t, "New, Give", b, plain{most: most, left: most})
		})
	}
}

func TestNewOfWhatCannotBe(t *testing.T) {
	for _, most := range []int{-1, -2, -4096, math.MinInt, 4097, 8192, 1 << 16, 1 << 40, math.MaxInt} {
		soon(t, func() {
			if b, err := New(most); b != nil || err != api.ErrArg {
				t.Errorf("P17.1: New(%d): %v, error %d, want nil, %d", most, b, err, api.ErrArg)
			}
		})
	}
}

func TestExample(t *testing.T) {
	soon(t, func() {
		b := made(t, 1)
		if first, second := b.Take(), b.Take(); !first || second {
			t.Errorf("P17.1: New(1): Take %v, then %v", first, second)
		}
		if !b.Give() || !b.Take() {
			t.Error("P17.1: New(1): behind Give there is a token")
		}
	})
}

// TestEveryOrder does all there is to do in every order, to budgets of few tokens.
func TestEveryOrder(t *testing.T) {
	soon(t, func() {
		for most := range 4 {
			follow(t, most, nil, 5)
		}
	})
}

// follow goes on behind what was done in every way, so many steps deep.
func follow(t *testing.T, most int, before []act, deep int) {
	t.Helper()
	if deep == 0 {
		replay(t, most, before)
		return
	}
	for _, a := range acts() {
		follow(t, most, append(before[:len(before):len(before)], a), deep-1)
		if t.Failed() {
			return
		}
	}
}

// replay does what is listed to a new budget and to a plain one.
func replay(t *testing.T, most int, list []act) {
	t.Helper()
	b, p := made(t, most), plain{most: most, left: most}
	done := fmt.Sprintf("New(%d)", most)
	for _, a := range list {
		done += ", " + a.name
		got, want := a.real(b), a.plain(&p)
		if got != want {
			t.Errorf("P17.1: %s: %d, want %d", done, got, want)
		}
		same(t, done, b, p)
	}
}

func TestTakeAllToItsEnds(t *testing.T) {
	for _, most := range []int{0, 1, 7, 4095, 4096} {
		for _, n := range []int{math.MinInt, -4096, -1, 0, 1, 6, 7, 8, 4094, 4095, 4096, 4097, 1 << 40, math.MaxInt} {
			soon(t, func() { replay(t, most, []act{taking(n), taking(1), taking(n), taking(math.MaxInt), taking(n)}) })
		}
	}
}

// TestOneByOne empties the greatest budget and fills it again by single tokens.
func TestOneByOne(t *testing.T) {
	soon(t, func() {
		b := made(t, api.MaxItems)
		for i := range api.MaxItems {
			if !b.Take() || b.Left() != api.MaxItems-1-i {
				t.Fatalf("P17.1: Take number %d: Left %d", i+1, b.Left())
			}
		}
		if b.Take() || b.TakeAll(1) != 0 {
			t.Error("P17.1: more is taken than is there")
		}
		for i := range api.MaxItems {
			if !b.Give() || b.Left() != i+1 {
				t.Fatalf("P17.1: Give number %d: Left %d", i+1, b.Left())
			}
		}
		if b.Give() || b.Left() != api.MaxItems {
			t.Error("P17.1: more is given than there is room for")
		}
	})
}

func TestShut(t *testing.T) {
	soon(t, func() {
		b := made(t, 5)
		b.TakeAll(3)
		if !b.Shut() || b.Open() || b.Shut() || b.Open() {
			t.Error("P17.1: Shut tells true once, and Open false from then on")
		}
		if b.Take() || b.TakeAll(1) != 0 || b.TakeAll(math.MaxInt) != 0 || b.Left() != 2 {
			t.Errorf("P17.1: a shut budget gives tokens: %d left", b.Left())
		}
		for want := 3; want <= 5; want++ {
			if !b.Give() || b.Left() != want {
				t.Errorf("P17.1: Give of a shut one: Left %d, want %d", b.Left(), want)
			}
		}
		if b.Give() || b.Left() != 5 || b.Take() || b.Open() {
			t.Errorf("P17.1: a shut budget that is full again: Left %d", b.Left())
		}
	})
}

// nobody asks a budget that isn't there, or that New didn't make, for everything.
func nobody(t *testing.T, name string, b *Budget) {
	t.Helper()
	for range 2 {
		if b.Take() || b.Give() || b.Left() != 0 {
			t.Errorf("P17.1: %s: Take, Give or Left tells something", name)
		}
		for _, n := range []int{math.MinInt, -1, 0, 1, 4096, math.MaxInt} {
			if got := b.TakeAll(n); got != 0 {
				t.Errorf("P17.1: %s: TakeAll(%d): %d", name, n, got)
			}
		}
	}
}

func TestNil(t *testing.T) {
	soon(t, func() {
		var b *Budget
		nobody(t, "nil", b)
		if b.Shut() || b.Open() || b.Shut() {
			t.Error("P17.1: nil: Shut or Open tells true")
		}
		nobody(t, "nil that was shut", b)
	})
}

func TestOneThatNewDidNotMake(t *testing.T) {
	soon(t, func() {
		b := new(Budget)
		nobody(t, "Budget{}", b)
		if !b.Open() || !b.Shut() || b.Open() || b.Shut() {
			t.Error("R1: Budget{}: it is open till it is shut")
		}
		nobody(t, "Budget{} that was shut", b)
	})
}

// TestEachByItself: nothing is kept between calls but in the budget itself.
func TestEachByItself(t *testing.T) {
	soon(t, func() {
		one, other := made(t, 3), made(t, 3)
		one.TakeAll(2)
		one.Shut()
		same(t, "what was done to another one", other, plain{most: 3, left: 3})
		other.TakeAll(3)
		same(t, "TakeAll(2), Shut", one, plain{most: 3, left: 1, shut: true})
		same(t, "what was done ahead of it", made(t, 3), plain{most: 3, left: 3})
	})
}

// TestNeverMore counts what is taken and given in a long run of a fixed rule.
func TestNeverMore(t *testing.T) {
	soon(t, func() {
		for _, most := range []int{0, 1, 5, 64} {
			b := made(t, most)
			taken, given, state := 0, 0, uint64(most)+1
			for range 20000 {
				state = state*6364136223846793005 + 1442695040888963407
				roll := int(state >> 33)
				switch roll % 3 {
				case 0:
					taken += bit(b.Take())
				case 1:
					given += bit(b.Give())
				default:
					taken += b.TakeAll(roll / 3 % 4)
				}
				if b.Left() != most+given-taken || b.Left() < 0 || b.Left() > most {
					t.Fatalf("P17.2: of %d, behind %d taken and %d given: %d left", most, taken, given, b.Left())
				}
			}
		}
	})
}
