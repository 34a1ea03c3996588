package ring_test

import (
	"iter"
	"math"
	"runtime"
	"slices"
	"testing"
	"weak"

	"aerie/api"
	"aerie/ring"
)

// made is a ring with that room, in which these were pushed.
func made(t *testing.T, room int, l ...int) *ring.Ring[int] {
	t.Helper()
	r, err := ring.New[int](room)
	if err != api.OK || r == nil {
		t.Fatalf("New(%d) = %v, %d", room, r, err)
	}
	r.Push(l...)
	return r
}

// yielded is what an iterator yields; its indices must count from 0.
func yielded[T any](t *testing.T, all iter.Seq2[int, T]) []T {
	t.Helper()
	var out []T
	for i, v := range all {
		if i != len(out) {
			t.Errorf("index %d at element %d", i, len(out))
		}
		out = append(out, v)
	}
	return out
}

// holds checks all that a ring tells without changing it.
func holds(t *testing.T, r *ring.Ring[int], room, lost, dropped int, want ...int) {
	t.Helper()
	if r.Len() != len(want) || r.Room() != room-len(want) {
		t.Errorf("Len %d, Room %d, want %d, %d", r.Len(), r.Room(), len(want), room-len(want))
	}
	if r.Lost() != lost || r.Dropped() != dropped {
		t.Errorf("Lost %d, Dropped %d, want %d, %d", r.Lost(), r.Dropped(), lost, dropped)
	}
	if got := yielded(t, r.All()); !slices.Equal(got, want) {
		t.Errorf("All yields %v, want %v", got, want)
	}
	for i, v := range want {
		if got, ok := r.At(i); got != v || !ok {
			t.Errorf("At(%d) = %d, %t, want %d", i, got, ok, v)
		}
	}
	for _, i := range []int{math.MinInt, -1 << 32, -1, len(want), len(want) + 1, room, room + 1, 1 << 32, math.MaxInt} {
		if i >= 0 && i < len(want) {
			continue
		}
		if got, ok := r.At(i); got != 0 || ok {
			t.Errorf("At(%d) = %d, %t, want none", i, got, ok)
		}
	}
}

func upTo(n int) []int {
	var l []int
	for i := range n {
		l = append(l, i+1)
	}
	return l
}

func TestNew(t *testing.T) {
	for _, room := range []int{math.MinInt, -4096, -1, 0, 4097, 65536, 1<<32 + 1, math.MaxInt} {
		if r, err := ring.New[int](room); r != nil || err != api.ErrArg {
			t.Errorf("New(%d) = %v, %d, want nil, ErrArg", room, r, err)
		}
	}
	for _, room := range []int{1, 2, 3, 4095, 4096} {
		r := made(t, room)
		holds(t, r, room, 0, 0)
		for i := range room {
			if !r.Offer(i) {
				t.Fatalf("room %d: no room for element %d", room, i)
			}
		}
		if r.Len() != room || r.Room() != 0 || r.Offer(9) || r.Push(9) != 1 {
			t.Errorf("room %d isn't the room", room)
		}
	}
}

func TestExample(t *testing.T) {
	r := made(t, 2)
	if lost := r.Push(1, 2, 3); lost != 1 {
		t.Error("lost", lost)
	}
	holds(t, r, 2, 1, 0, 2, 3)
	if r.Offer(4) {
		t.Error("4 was stored")
	}
	holds(t, r, 2, 1, 1, 2, 3)
}

func TestPush(t *testing.T) {
	for _, x := range []struct {
		before, l []int
		lost      int
		want      []int
	}{
		{nil, nil, 0, nil}, {nil, []int{}, 0, nil}, {[]int{7}, nil, 0, []int{7}}, {[]int{7, 8, 9, 10}, nil, 0, []int{7, 8, 9, 10}},
		{nil, []int{1}, 0, []int{1}}, {[]int{7}, []int{1, 2}, 0, []int{7, 1, 2}},
		// As many as there is room for, and one more.
		{nil, []int{1, 2, 3, 4}, 0, []int{1, 2, 3, 4}}, {[]int{7}, []int{1, 2, 3}, 0, []int{7, 1, 2, 3}},
		{nil, []int{1, 2, 3, 4, 5}, 1, []int{2, 3, 4, 5}}, {[]int{7}, []int{1, 2, 3, 4}, 1, []int{1, 2, 3, 4}},
		{[]int{7, 8, 9, 10}, []int{1}, 1, []int{8, 9, 10, 1}}, {[]int{7, 8, 9, 10}, []int{1, 2, 3, 4}, 4, []int{1, 2, 3, 4}},
		// More than the room at once.
		{[]int{7}, []int{1, 2, 3, 4, 5}, 2, []int{2, 3, 4, 5}}, {[]int{7, 8, 9, 10}, []int{1, 2, 3, 4, 5, 6}, 6, []int{3, 4, 5, 6}},
		{nil, []int{1, 2, 3, 4, 5, 6, 7, 8, 9}, 5, []int{6, 7, 8, 9}},
	} {
		r := made(t, 4, x.before...)
		if lost := r.Push(x.l...); lost != x.lost {
			t.Errorf("%v, Push(%v): lost %d, want %d", x.before, x.l, lost, x.lost)
		}
		holds(t, r, 4, x.lost, 0, x.want...)
	}
}

func TestOfferAndPop(t *testing.T) {
	r := made(t, 2)
	if v, ok := r.Pop(); v != 0 || ok {
		t.Error("Pop of an empty ring", v, ok)
	}
	if !r.Offer(5) || !r.Offer(6) || r.Offer(7) || r.Offer(8) {
		t.Error("Offer")
	}
	holds(t, r, 2, 0, 2, 5, 6)
	if v, ok := r.Pop(); v != 5 || !ok {
		t.Error("Pop", v, ok)
	}
	if !r.Offer(9) {
		t.Error("Offer after Pop")
	}
	holds(t, r, 2, 0, 2, 6, 9)
	for _, want := range []int{6, 9} {
		if v, ok := r.Pop(); v != want || !ok {
			t.Error("Pop", v, ok)
		}
	}
	if v, ok := r.Pop(); v != 0 || ok {
		t.Error("Pop of an emptied ring", v, ok)
	}
	holds(t, r, 2, 0, 2)
}

func TestAllStoppedAndAgain(t *testing.T) {
	r := made(t, 4, upTo(6)...)
	all := r.All()
	for stop := range 5 {
		var got []int
		for i, v := range all {
			if i == stop {
				break
			}
			got = append(got, v)
		}
		if want := upTo(6)[2:]; !slices.Equal(got, want[:stop]) {
			t.Errorf("stopped at %d: %v", stop, got)
		}
	}
	calls := 0
	all(func(int, int) bool {
		calls++
		return false
	})
	if calls != 1 {
		t.Errorf("stopped at once, it yielded %d times", calls)
	}
	for range 2 {
		if got := yielded(t, all); !slices.Equal(got, []int{3, 4, 5, 6}) {
			t.Error("run again:", got)
		}
	}
	holds(t, r, 4, 2, 0, 3, 4, 5, 6)
}

// TestAllIsSettledWhenMade: what a call gives hangs on earlier calls only, so
// an iterator shows none of the later ones (P2), not even of those made while
// it runs.
func TestAllIsSettledWhenMade(t *testing.T) {
	r := made(t, 3, 1, 2, 3)
	all, none := r.All(), made(t, 3).All()
	r.Pop()
	r.Push(4, 5)
	if got := yielded(t, all); !slices.Equal(got, []int{1, 2, 3}) {
		t.Error("after Push:", got)
	}
	all = r.All()
	r.Drain()
	if got := yielded(t, all); !slices.Equal(got, []int{3, 4, 5}) {
		t.Error("after Drain:", got)
	}
	r.Push(6, 7, 8)
	all = r.All()
	r.Clear()
	if got := yielded(t, all); !slices.Equal(got, []int{6, 7, 8}) {
		t.Error("after Clear:", got)
	}
	r.Push(1, 2, 3)
	var got []int
	for _, v := range r.All() {
		got = append(got, v)
		r.Pop()
		r.Push(v+10, v+20)
	}
	if !slices.Equal(got, []int{1, 2, 3}) {
		t.Error("changed while it runs:", got)
	}
	if got := yielded(t, none); got != nil {
		t.Error("of an empty ring:", got)
	}
}

func TestLostStays(t *testing.T) {
	r := made(t, 1, 0)
	for n := 1; n <= 65540; n++ {
		if lost := r.Push(n); lost != 1 {
			t.Fatal("Push lost", lost)
		}
		if want := min(n, 65535); r.Lost() != want {
			t.Fatalf("Lost %d after %d", r.Lost(), n)
		}
	}
	holds(t, r, 1, 65535, 0, 65540)
}

func TestLostStaysAtOnce(t *testing.T) {
	r := made(t, 3)
	// The call's own number isn't limited.
	if lost := r.Push(upTo(65537)...); lost != 65534 || r.Lost() != 65534 {
		t.Error(lost, r.Lost())
	}
	if lost := r.Push(1); lost != 1 || r.Lost() != 65535 {
		t.Error(lost, r.Lost())
	}
	if lost := r.Push(upTo(100000)...); lost != 100000 || r.Lost() != 65535 {
		t.Error(lost, r.Lost())
	}
	holds(t, r, 3, 65535, 0, 99998, 99999, 100000)
	r = made(t, 3)
	if lost := r.Push(upTo(200000)...); lost != 199997 || r.Lost() != 65535 {
		t.Error(lost, r.Lost())
	}
}

func TestDroppedStays(t *testing.T) {
	r := made(t, 1, 7)
	for n := 1; n <= 65540; n++ {
		if r.Offer(n) {
			t.Fatal("stored", n)
		}
		if want := min(n, 65535); r.Dropped() != want {
			t.Fatalf("Dropped %d after %d", r.Dropped(), n)
		}
	}
	holds(t, r, 1, 0, 65535, 7)
}

func TestClear(t *testing.T) {
	r := made(t, 3, upTo(5)...)
	r.Offer(9)
	r.Offer(9)
	holds(t, r, 3, 2, 2, 3, 4, 5)
	r.Clear()
	holds(t, r, 3, 0, 0)
	if v, ok := r.Pop(); v != 0 || ok {
		t.Error("Pop after Clear", v, ok)
	}
	r.Clear()
	holds(t, r, 3, 0, 0)
	if lost := r.Push(1, 2, 3, 4); lost != 1 || r.Offer(5) {
		t.Error("Push, Offer after Clear")
	}
	holds(t, r, 3, 1, 1, 2, 3, 4)
}

func TestDrain(t *testing.T) {
	r := made(t, 3)
	if got := r.Drain(); len(got) != 0 {
		t.Error("of an empty ring", got)
	}
	r.Push(upTo(5)...)
	r.Offer(9)
	if got := r.Drain(); !slices.Equal(got, []int{3, 4, 5}) {
		t.Error(got)
	}
	holds(t, r, 3, 2, 1)
	if got := r.Drain(); len(got) != 0 {
		t.Error("drained again", got)
	}
	r.Push(6, 7, 8, 9)
	r.Offer(9)
	r.Pop()
	r.Push(10)
	holds(t, r, 3, 3, 2, 8, 9, 10)
	if got := r.Drain(); !slices.Equal(got, []int{8, 9, 10}) {
		t.Error(got)
	}
	holds(t, r, 3, 3, 2)
}

// TestMemory: what was handed in and what was handed out is the caller's.
func TestMemory(t *testing.T) {
	r := made(t, 4)
	l := []int{1, 2, 3, 4, 77, 78}
	r.Push(l[:4]...)
	if !slices.Equal(l, []int{1, 2, 3, 4, 77, 78}) {
		t.Error("an argument was changed", l)
	}
	spoil(l)
	holds(t, r, 4, 0, 0, 1, 2, 3, 4)
	one := r.Drain()
	r.Push(5, 6, 7)
	if !slices.Equal(one, []int{1, 2, 3, 4}) {
		t.Error("a result was changed", one)
	}
	spoil(one)
	holds(t, r, 4, 0, 0, 5, 6, 7)
	two := r.Drain()
	spoil(one)
	if !slices.Equal(two, []int{5, 6, 7}) {
		t.Error("results share memory", two)
	}
	r.Push(8, 9)
	spoil(two)
	holds(t, r, 4, 0, 0, 8, 9)
}

// TestMemoryOfMoreThanTheRoom: nothing of a long argument is kept either.
func TestMemoryOfMoreThanTheRoom(t *testing.T) {
	r := made(t, 2)
	l := upTo(5)
	r.Push(l...)
	spoil(l)
	holds(t, r, 2, 3, 0, 4, 5)
	r.Push(6)
	if !slices.Equal(l, []int{-1, -1, -1, -1, -1}) {
		t.Error("an argument was changed", l)
	}
}

// spoil overwrites a list, and what capacity it has to spare.
func spoil(l []int) {
	l = l[:cap(l)]
	for i := range l {
		l[i] = -1
	}
}

func TestNil(t *testing.T) {
	var r *ring.Ring[string]
	if r.Push() != 0 || r.Push("a", "b") != 0 || r.Offer("a") {
		t.Error("Push, Offer")
	}
	if v, ok := r.Pop(); v != "" || ok {
		t.Error("Pop", v, ok)
	}
	for _, i := range []int{math.MinInt, -1, 0, 1, math.MaxInt} {
		if v, ok := r.At(i); v != "" || ok {
			t.Error("At", i, v, ok)
		}
	}
	for i, v := range r.All() {
		t.Error("All", i, v)
	}
	r.Clear()
	if l := r.Drain(); len(l) != 0 {
		t.Error("Drain", l)
	}
	if r.Len() != 0 || r.Room() != 0 || r.Lost() != 0 || r.Dropped() != 0 {
		t.Error("counts")
	}
}

func TestAnyType(t *testing.T) {
	type pair struct {
		name string
		list []byte
	}
	r, _ := ring.New[pair](2)
	r.Push(pair{"a", []byte{1}}, pair{"b", nil}, pair{"c", []byte{3}})
	if v, ok := r.At(1); !ok || v.name != "c" || !slices.Equal(v.list, []byte{3}) {
		t.Error("At", v, ok)
	}
	if v, ok := r.At(2); ok || v.name != "" || v.list != nil {
		t.Error("none", v, ok)
	}
	p, _ := ring.New[*int](1)
	n := 5
	p.Push(&n)
	if v, ok := p.Pop(); v != &n || !ok {
		t.Error("Pop of a pointer")
	}
	if v, ok := p.Pop(); v != nil || ok {
		t.Error("none of a pointer")
	}
	e, _ := ring.New[struct{}](3)
	if lost := e.Push(make([]struct{}, 1<<20)...); lost != 1<<20-3 || e.Len() != 3 || len(e.Drain()) != 3 {
		t.Error("elements without a size:", lost)
	}
}

// TestNothingIsKept: what a ring no longer has, it keeps no memory of.
func TestNothingIsKept(t *testing.T) {
	for _, x := range []struct {
		name string
		take func(r *ring.Ring[*[64]int])
	}{
		{"Pop", func(r *ring.Ring[*[64]int]) { r.Pop() }},
		{"Push", func(r *ring.Ring[*[64]int]) { r.Push(nil, nil, nil) }},
		{"Drain", func(r *ring.Ring[*[64]int]) { r.Drain() }},
		{"Clear", func(r *ring.Ring[*[64]int]) { r.Clear() }},
	} {
		r, _ := ring.New[*[64]int](3)
		first := pushed(r)
		runtime.GC()
		if first.Value() == nil {
			t.Fatal("the ring lost what it had")
		}
		x.take(r)
		runtime.GC()
		if first.Value() != nil {
			t.Errorf("after %s the ring still keeps what it had", x.name)
		}
		runtime.KeepAlive(r)
	}
}

// pushed pushes something that nothing else refers to.
func pushed(r *ring.Ring[*[64]int]) weak.Pointer[[64]int] {
	p := new([64]int)
	r.Push(p)
	return weak.Make(p)
}

// plain is a ring as the document tells it, element by element.
type plain struct {
	room, lost, dropped int
	l                   []int
}

func (p *plain) push(l []int) int {
	lost := 0
	for _, v := range l {
		p.l = append(p.l, v)
		if len(p.l) > p.room {
			p.l = p.l[1:]
			lost++
		}
	}
	p.lost = min(p.lost+lost, 65535)
	return lost
}

func (p *plain) offer(v int) bool {
	if len(p.l) == p.room {
		p.dropped = min(p.dropped+1, 65535)
		return false
	}
	p.l = append(p.l, v)
	return true
}

func (p *plain) pop() (int, bool) {
	if len(p.l) == 0 {
		return 0, false
	}
	v := p.l[0]
	p.l = p.l[1:]
	return v, true
}

// draws gives numbers below n, the same ones in each run.
func draws(seed uint32) func(n int) int {
	return func(n int) int {
		seed = seed*1664525 + 1013904223
		return int(seed>>8) % n
	}
}

// TestAgainstPlain drives rings of several rooms through long mixes of calls,
// in which the oldest element comes to lie in every slot.
func TestAgainstPlain(t *testing.T) {
	for _, room := range []int{1, 2, 3, 5, 8} {
		r, p := made(t, room), &plain{room: room}
		other := made(t, room, 1)
		draw := draws(uint32(room))
		for step := range 3000 {
			value := step * 100
			switch kind := draw(20); {
			case kind < 7:
				l := make([]int, draw(2*room+2))
				for i := range l {
					l[i] = value + i
				}
				if got, want := r.Push(l...), p.push(l); got != want {
					t.Fatalf("room %d, step %d: Push %d, want %d", room, step, got, want)
				}
			case kind < 12:
				if got, want := r.Offer(value), p.offer(value); got != want {
					t.Fatalf("room %d, step %d: Offer %t, want %t", room, step, got, want)
				}
			case kind < 18:
				got, ok := r.Pop()
				want, wantOK := p.pop()
				if got != want || ok != wantOK {
					t.Fatalf("room %d, step %d: Pop %d, %t, want %d, %t", room, step, got, ok, want, wantOK)
				}
			case kind == 18:
				if got := r.Drain(); !slices.Equal(got, p.l) {
					t.Fatalf("room %d, step %d: Drain %v, want %v", room, step, got, p.l)
				}
				p.l = nil
			case draw(5) == 0:
				r.Clear()
				*p = plain{room: room}
			}
			holds(t, r, room, p.lost, p.dropped, p.l...)
			if t.Failed() {
				t.Fatalf("room %d, step %d", room, step)
			}
		}
		holds(t, other, room, 0, 0, 1)
	}
}
