package mail

import (
	"fmt"
	"math"
	"slices"
	"testing"
	"time"

	"planimeter/api"
)

// post is a mailbox of numbers as the chapter's words say it, without channels: the tests hold the package against it.
type post struct {
	urgentRoom, plainRoom int
	urgent, plain         []int
	in, out               int
}

func (p *post) put(x int, urgent bool) api.Errno {
	queue, room := &p.plain, p.plainRoom
	if urgent {
		queue, room = &p.urgent, p.urgentRoom
	}
	if len(*queue) == room {
		return api.ErrFull
	}
	*queue = append(*queue, x)
	p.in++
	return api.OK
}

func (p *post) take() (int, bool, api.Errno) {
	queue, urgent := &p.plain, false
	if len(p.urgent) > 0 {
		queue, urgent = &p.urgent, true
	}
	if len(*queue) == 0 {
		return 0, false, api.ErrNone
	}
	x := (*queue)[0]
	*queue = (*queue)[1:]
	p.out++
	return x, urgent, api.OK
}

func (p *post) drain() []int {
	all := slices.Concat(p.urgent, p.plain)
	p.out += len(all)
	p.urgent, p.plain = nil, nil
	return all
}

// act is something that is done to a mailbox and to a post, held against each other; x is what may be put in.
type act struct {
	name string
	do   func(t *testing.T, done string, b *Box[int], p *post, x int)
}

// putting is Put into one of the queues.
func putting(urgent bool) act {
	return act{fmt.Sprintf("Put(%v)", urgent), func(t *testing.T, done string, b *Box[int], p *post, x int) {
		t.Helper()
		if got, want := b.Put(x, urgent), p.put(x, urgent); got != want {
			t.Errorf("P18.1: %s: error %d, want %d", done, got, want)
		}
	}}
}

func taking(t *testing.T, done string, b *Box[int], p *post, _ int) {
	t.Helper()
	x, urgent, err := b.Take()
	if wantX, wantUrgent, wantErr := p.take(); x != wantX || urgent != wantUrgent || err != wantErr {
		t.Errorf("P18.1: %s: %d, %v, error %d, want %d, %v, %d", done, x, urgent, err, wantX, wantUrgent, wantErr)
	}
}

func draining(t *testing.T, done string, b *Box[int], p *post, _ int) {
	t.Helper()
	if got, want := Drain(b), p.drain(); !slices.Equal(got, want) {
		t.Errorf("P18.2: %s: %v, want %v", done, got, want)
	}
}

// acts are all that can be done to a mailbox.
func acts() []act {
	return []act{putting(true), putting(false), {"Take", taking}, {"Drain", draining}}
}

// made is a new mailbox, which must be one.
func made[T any](t *testing.T, urgent, plain int) *Box[T] {
	t.Helper()
	b, err := New[T](urgent, plain)
	if err != api.OK || b == nil {
		t.Fatalf("P18.1: New(%d, %d): error %d", urgent, plain, err)
	}
	return b
}

// soon fails the test, if what it does doesn't end: a channel that isn't asked by select would wait without an end.
func soon(t *testing.T, do func()) {
	t.Helper()
	done := make(chan struct{})
	go func() {
		defer close(done)
		do()
	}()
	select {
	case <-done:
	case <-time.After(20 * time.Second):
		t.Fatal("R1: a call doesn't end")
	}
}

// holds holds what is to be seen of a mailbox against what is meant to be.
func holds[T any](t *testing.T, done string, b *Box[T], wantUrgent, wantPlain, wantIn, wantOut int) {
	t.Helper()
	if urgent, plain := b.Len(); urgent != wantUrgent || plain != wantPlain {
		t.Errorf("P18.1: behind %s: Len %d, %d, want %d, %d", done, urgent, plain, wantUrgent, wantPlain)
	}
	if in, out := b.Counts(); in != wantIn || out != wantOut {
		t.Errorf("P18.1: behind %s: Counts %d, %d, want %d, %d", done, in, out, wantIn, wantOut)
	}
}

// same holds what is to be seen of a mailbox against the post.
func same(t *testing.T, done string, b *Box[int], p *post) {
	t.Helper()
	holds(t, done, b, len(p.urgent), len(p.plain), p.in, p.out)
}

func TestNew(t *testing.T) {
	rooms := []int{0, 1, 2, 4095, 4096}
	for _, urgent := range rooms {
		for _, plain := range rooms {
			soon(t, func() { fill(t, urgent, plain) })
		}
	}
}

// fill fills a new mailbox to its ends, the plain queue ahead of the urgent one, and empties it again.
func fill(t *testing.T, urgent, plain int) {
	t.Helper()
	b := made[int](t, urgent, plain)
	holds(t, "New", b, 0, 0, 0, 0)
	stuff(t, b, false, plain)
	holds(t, "Put of plain ones", b, 0, plain, plain, 0)
	stuff(t, b, true, urgent)
	holds(t, "Put of both", b, urgent, plain, urgent+plain, 0)
	empty(t, b, true, urgent)
	holds(t, "Take of urgent ones", b, 0, plain, urgent+plain, urgent)
	empty(t, b, false, plain)
	holds(t, "Take of both", b, 0, 0, urgent+plain, urgent+plain)
	if x, isUrgent, err := b.Take(); x != 0 || isUrgent || err != api.ErrNone {
		t.Errorf("P18.1: New(%d, %d): Take of an empty one: %d, %v, error %d", urgent, plain, x, isUrgent, err)
	}
}

// stuff puts 1 to room into a queue, and finds that there is no room for one more.
func stuff(t *testing.T, b *Box[int], urgent bool, room int) {
	t.Helper()
	for i := range room {
		if err := b.Put(i+1, urgent); err != api.OK {
			t.Fatalf("P18.1: Put number %d of %d: error %d", i+1, room, err)
		}
	}
	if err := b.Put(-1, urgent); err != api.ErrFull {
		t.Errorf("P18.1: Put beyond %d: error %d, want %d", room, err, api.ErrFull)
	}
}

// empty takes 1 to room, all of one queue.
func empty(t *testing.T, b *Box[int], urgent bool, room int) {
	t.Helper()
	for i := range room {
		if x, isUrgent, err := b.Take(); x != i+1 || isUrgent != urgent || err != api.OK {
			t.Fatalf("P18.3: Take number %d of %d: %d, %v, error %d", i+1, room, x, isUrgent, err)
		}
	}
}

func TestNewOfWhatCannotBe(t *testing.T) {
	wrong := []int{-1, -2, -4096, math.MinInt, 4097, 8192, 1 << 16, 1 << 40, math.MaxInt}
	for _, w := range wrong {
		for _, other := range append([]int{0, 1, 4096}, wrong...) {
			refused(t, w, other)
			refused(t, other, w)
		}
	}
}

// refused finds that there is no mailbox with such rooms.
func refused(t *testing.T, urgent, plain int) {
	t.Helper()
	if b, err := New[string](urgent, plain); b != nil || err != api.ErrArg {
		t.Errorf("P18.1: New(%d, %d): error %d, want nil, %d", urgent, plain, err, api.ErrArg)
	}
}

func TestExample(t *testing.T) {
	soon(t, func() {
		b := made[int](t, 1, 1)
		b.Put(1, false)
		b.Put(2, true)
		if x, urgent, err := b.Take(); x != 2 || !urgent || err != api.OK {
			t.Errorf("P18.1: the urgent one: %d, %v, error %d", x, urgent, err)
		}
		if x, urgent, err := b.Take(); x != 1 || urgent || err != api.OK {
			t.Errorf("P18.1: the plain one: %d, %v, error %d", x, urgent, err)
		}
	})
}

// TestEveryOrder does all there is to do in every order, to mailboxes with little room.
func TestEveryOrder(t *testing.T) {
	soon(t, func() {
		for urgent := range 3 {
			for plain := range 3 {
				follow(t, urgent, plain, nil, 6)
			}
		}
	})
}

// follow goes on behind what was done in every way, so many steps deep.
func follow(t *testing.T, urgent, plain int, before []act, deep int) {
	t.Helper()
	if deep == 0 {
		replay(t, urgent, plain, before)
		return
	}
	for _, a := range acts() {
		follow(t, urgent, plain, append(before[:len(before):len(before)], a), deep-1)
		if t.Failed() {
			return
		}
	}
}

// replay does what is listed to a new mailbox and to a post; what is put in is another number each time.
func replay(t *testing.T, urgent, plain int, list []act) {
	t.Helper()
	b, p := made[int](t, urgent, plain), &post{urgentRoom: urgent, plainRoom: plain}
	done := fmt.Sprintf("New(%d, %d)", urgent, plain)
	for i, a := range list {
		done += ", " + a.name
		a.do(t, done, b, p, i+1)
		same(t, done, b, p)
	}
}

// TestLongRun goes on with greater mailboxes by a fixed rule: each queue goes around in its room many times.
func TestLongRun(t *testing.T) {
	soon(t, func() {
		for _, room := range [][2]int{{1, 1}, {0, 9}, {9, 0}, {5, 64}, {64, 5}, {4096, 4096}} {
			run(t, room[0], room[1], 30000)
		}
	})
}

// run does so many steps: two of three put in, one takes, and all is taken at once now and then.
func run(t *testing.T, urgent, plain, steps int) {
	t.Helper()
	b, p := made[int](t, urgent, plain), &post{urgentRoom: urgent, plainRoom: plain}
	all, state := acts(), uint64(urgent)<<16+uint64(plain)
	for i := range steps {
		state = state*6364136223846793005 + 1442695040888963407
		pick := int(state>>33) % 3
		if state>>34%8000 == 0 {
			pick = 3
		}
		done := fmt.Sprintf("New(%d, %d), step %d, %s", urgent, plain, i, all[pick].name)
		all[pick].do(t, done, b, p, i+1)
		same(t, done, b, p)
		if t.Failed() {
			return
		}
	}
}

// TestNothingLost: what is put in comes out once, each queue in its own order, whatever is taken between.
func TestNothingLost(t *testing.T) {
	soon(t, func() {
		b := made[int](t, 7, 11)
		var wantUrgent, wantPlain, gotUrgent, gotPlain []int
		note := func(x int, urgent bool) {
			if urgent {
				gotUrgent = append(gotUrgent, x)
			} else {
				gotPlain = append(gotPlain, x)
			}
		}
		for i := 1; i <= 5000; i++ {
			if b.Put(i, true) == api.OK {
				wantUrgent = append(wantUrgent, i)
			}
			if b.Put(-i, false) == api.OK {
				wantPlain = append(wantPlain, -i)
			}
			for range i % 4 {
				if x, urgent, err := b.Take(); err == api.OK {
					note(x, urgent)
				}
			}
		}
		for _, x := range Drain(b) {
			note(x, x > 0)
		}
		if !slices.Equal(gotUrgent, wantUrgent) || !slices.Equal(gotPlain, wantPlain) {
			t.Errorf("P18.3: %d and %d came in, %d and %d went out, or in another order", len(wantUrgent), len(wantPlain), len(gotUrgent), len(gotPlain))
		}
		holds(t, "all", b, 0, 0, len(wantUrgent)+len(wantPlain), len(gotUrgent)+len(gotPlain))
	})
}

func TestDrain(t *testing.T) {
	soon(t, func() {
		b := made[string](t, 2, 3)
		if list := Drain(b); len(list) != 0 {
			t.Errorf("P18.2: Drain of an empty one: %v", list)
		}
		b.Put("a", false)
		b.Put("b", true)
		b.Put("c", false)
		b.Put("d", true)
		b.Put("e", true)
		if list := Drain(b); !slices.Equal(list, []string{"b", "d", "a", "c"}) {
			t.Errorf("P18.2: Drain: %v", list)
		}
		holds(t, "Drain", b, 0, 0, 4, 4)
		if list := Drain(b); len(list) != 0 {
			t.Errorf("P18.2: Drain behind Drain: %v", list)
		}
		if b.Put("f", false) != api.OK || !slices.Equal(Drain(b), []string{"f"}) {
			t.Error("P18.2: behind Drain there is room again")
		}
	})
}

// TestDrainIsTheCallers: what was told stays, whatever is put in behind it.
func TestDrainIsTheCallers(t *testing.T) {
	soon(t, func() {
		b := made[int](t, 2, 2)
		b.Put(1, true)
		b.Put(2, false)
		first := Drain(b)
		b.Put(3, true)
		b.Put(4, false)
		second := Drain(b)
		if !slices.Equal(first, []int{1, 2}) {
			t.Errorf("R4: what Drain told is now %v", first)
		}
		first[0], first[1] = 9, 9
		if !slices.Equal(second, []int{3, 4}) {
			t.Errorf("R4: what Drain told behind it is now %v", second)
		}
	})
}

// TestWhatIsPutStays: a box has a value of its own, not the caller's variable.
func TestWhatIsPutStays(t *testing.T) {
	soon(t, func() {
		b := made[[2]int](t, 1, 1)
		x := [2]int{1, 2}
		b.Put(x, true)
		x[0] = 7
		b.Put(x, false)
		x[0] = 8
		if list := Drain(b); !slices.Equal(list, [][2]int{{1, 2}, {7, 2}}) {
			t.Errorf("R4: what was put in is now %v", list)
		}
		if x != [2]int{8, 2} {
			t.Errorf("R4: what was handed in is now %v", x)
		}
	})
}

// nobody asks a mailbox that isn't there, or that New didn't make, for everything.
func nobody[T comparable](t *testing.T, name string, b *Box[T], x T, wantPut, wantTake api.Errno) {
	t.Helper()
	var none T
	for _, urgent := range []bool{true, false, true} {
		if err := b.Put(x, urgent); err != wantPut {
			t.Errorf("P18.1: %s: Put: error %d, want %d", name, err, wantPut)
		}
		if x, isUrgent, err := b.Take(); x != none || isUrgent || err != wantTake {
			t.Errorf("P18.1: %s: Take: %v, %v, error %d, want %d", name, x, isUrgent, err, wantTake)
		}
		if list := Drain(b); len(list) != 0 {
			t.Errorf("P18.2: %s: Drain: %v", name, list)
		}
		holds(t, name, b, 0, 0, 0, 0)
	}
}

func TestNil(t *testing.T) {
	soon(t, func() {
		nobody[int](t, "nil", nil, 1, api.ErrNil, api.ErrNil)
		nobody[string](t, "nil", nil, "a", api.ErrNil, api.ErrNil)
	})
}

func TestOneThatNewDidNotMake(t *testing.T) {
	soon(t, func() {
		nobody(t, "Box{}", &Box[int]{}, 1, api.ErrFull, api.ErrNone)
		nobody(t, "Box{}", &Box[string]{}, "a", api.ErrFull, api.ErrNone)
	})
}

// TestNothingAsMail: a zero value is mail as any other.
func TestNothingAsMail(t *testing.T) {
	soon(t, func() {
		numbers, pointers := made[int](t, 1, 1), made[*int](t, 1, 1)
		numbers.Put(0, true)
		pointers.Put(nil, false)
		holds(t, "Put(0)", numbers, 1, 0, 1, 0)
		holds(t, "Put(nil)", pointers, 0, 1, 1, 0)
		if _, urgent, err := numbers.Take(); !urgent || err != api.OK {
			t.Errorf("P18.1: Take of 0: %v, error %d", urgent, err)
		}
		if p, urgent, err := pointers.Take(); p != nil || urgent || err != api.OK {
			t.Errorf("P18.1: Take of nil: %v, error %d", urgent, err)
		}
	})
}

// TestAnyType: mail may be without a size, of a great one, or such as isn't to be held against another.
func TestAnyType(t *testing.T) {
	soon(t, func() {
		nothing := made[struct{}](t, 2, 0)
		nothing.Put(struct{}{}, true)
		nothing.Put(struct{}{}, true)
		if list := Drain(nothing); len(list) != 2 {
			t.Errorf("P18.2: of struct{}: %d of 2", len(list))
		}
		great := made[[1 << 17]byte](t, api.MaxItems, 1)
		great.Put([1 << 17]byte{1<<17 - 1: 5}, false)
		if x, _, err := great.Take(); x[1<<17-1] != 5 || err != api.OK {
			t.Errorf("P18.1: of 128 KiB: error %d", err)
		}
		lists := made[[]any](t, 1, 1)
		lists.Put([]any{1, "a"}, false)
		lists.Put(nil, true)
		if all := Drain(lists); len(all) != 2 || all[0] != nil || len(all[1]) != 2 {
			t.Errorf("P18.2: of lists: %v", all)
		}
	})
}

// TestEachByItself: nothing is kept between calls but in the mailbox itself.
func TestEachByItself(t *testing.T) {
	soon(t, func() {
		one, other := made[int](t, 2, 2), made[int](t, 2, 2)
		one.Put(1, true)
		one.Put(2, false)
		holds(t, "what was done to another one", other, 0, 0, 0, 0)
		other.Put(3, true)
		if x, _, _ := other.Take(); x != 3 {
			t.Errorf("P18.3: %d, want 3", x)
		}
		holds(t, "Put, Put", one, 1, 1, 2, 0)
		if list := Drain(one); !slices.Equal(list, []int{1, 2}) {
			t.Errorf("P18.3: %v, want 1, 2", list)
		}
	})
}
