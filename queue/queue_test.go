package queue_test

import (
	"bytes"
	"math"
	"testing"

	"aerie/api"
	"aerie/pus"
	"aerie/queue"
)

// made is an empty queue with that room.
func made(t *testing.T, room int) *queue.Queue {
	t.Helper()
	q, err := queue.New(room)
	if err != api.OK || q == nil {
		t.Fatalf("New(%d) = %v, %d", room, q, err)
	}
	return q
}

// filled are n bytes, the same ones in each run.
func filled(n int) []byte {
	p := make([]byte, n)
	for i := range p {
		p[i] = byte(i*7 + n)
	}
	return p
}

// overwrite overwrites a list, and what capacity it has to spare.
func overwrite(p []byte) {
	p = p[:cap(p)]
	for i := range p {
		p[i] = 0xee
	}
}

func like(a, b pus.Report) bool {
	return a.Service == b.Service && a.Sub == b.Sub && a.Count == b.Count && a.Time == b.Time && string(a.Data) == string(b.Data)
}

// are checks a list of reports.
func are(t *testing.T, name string, got, want []pus.Report) {
	t.Helper()
	if len(got) != len(want) {
		t.Fatalf("%s: %d reports, want %d: %v, %v", name, len(got), len(want), got, want)
	}
	for i := range want {
		if !like(got[i], want[i]) {
			t.Errorf("%s: report %d is %v, want %v", name, i, got[i], want[i])
		}
	}
}

// holds checks all that a queue tells without changing it.
func holds(t *testing.T, q *queue.Queue, dropped int, count uint16, want ...pus.Report) {
	t.Helper()
	if q.Len() != len(want) || q.Dropped() != dropped || q.Count() != count {
		t.Errorf("Len %d, Dropped %d, Count %d, want %d, %d, %d", q.Len(), q.Dropped(), q.Count(), len(want), dropped, count)
	}
	are(t, "All", q.All(), want)
}

// numbered are reports with these Counts, as put puts them.
func numbered(from, to int) []pus.Report {
	var l []pus.Report
	for i := from; i < to; i++ {
		l = append(l, pus.Report{Service: byte(i), Sub: byte(i >> 8), Count: uint16(i), Time: uint32(i) * 65537, Data: filled(i % 5)})
	}
	return l
}

// put puts these reports, whose Counts must be the queue's next numbers.
func put(t *testing.T, q *queue.Queue, l []pus.Report) {
	t.Helper()
	for _, r := range l {
		if q.Count() != r.Count || !q.Put(r.Service, r.Sub, r.Time, r.Data) {
			t.Fatalf("Put of %v refused, or its number isn't next (%d)", r, q.Count())
		}
	}
}

func TestNew(t *testing.T) {
	for _, room := range []int{math.MinInt, math.MinInt + 1, math.MinInt32, -1 << 32, -17, -16, -2, -1, 0, 17, 18, 255, 4096, 4097, 65536, 1 << 32, 1<<32 + 1, 1<<32 + 16, math.MaxInt32, math.MaxInt - 1, math.MaxInt} {
		if q, err := queue.New(room); q != nil || err != api.ErrArg {
			t.Errorf("New(%d) = %v, %d, want nil, ErrArg", room, q, err)
		}
	}
	for room := 1; room <= api.MaxQueue; room++ {
		q := made(t, room)
		holds(t, q, 0, 0)
		l := numbered(0, room)
		put(t, q, l)
		holds(t, q, 0, uint16(room), l...)
		if q.Put(1, 2, 3, nil) {
			t.Errorf("room %d: one more was put", room)
		}
		holds(t, q, 1, uint16(room), l...)
	}
}

// TestExample: the chapter's.
func TestExample(t *testing.T) {
	q := made(t, 1)
	if !q.Put(17, 2, 5, []byte{9}) || q.Put(1, 7, 6, nil) {
		t.Error("the second must be dropped, and only that")
	}
	holds(t, q, 1, 1, pus.Report{Service: 17, Sub: 2, Count: 0, Time: 5, Data: []byte{9}})
}

// TestDroppedNumber: the number of what was dropped is used by the next one.
func TestDroppedNumber(t *testing.T) {
	q := made(t, 2)
	put(t, q, numbered(0, 2))
	for n := 1; n <= 3; n++ {
		if q.Put(77, 78, 79, filled(4)) {
			t.Error("put into a full queue")
		}
		holds(t, q, n, 2, numbered(0, 2)...)
	}
	are(t, "Take", q.Take(1), numbered(0, 1))
	holds(t, q, 3, 2, numbered(1, 2)...)
	put(t, q, numbered(2, 3))
	holds(t, q, 3, 3, numbered(1, 3)...)
	if q.Put(77, 78, 79, nil) {
		t.Error("put into a full queue")
	}
	are(t, "Take", q.Take(2), numbered(1, 3))
	put(t, q, numbered(3, 5))
	holds(t, q, 4, 5, numbered(3, 5)...)
}

// TestFields: each with its least and its greatest value.
func TestFields(t *testing.T) {
	for _, x := range []pus.Report{
		{}, {Service: 255}, {Sub: 255}, {Time: math.MaxUint32}, {Time: 1 << 31}, {Time: 1}, {Data: []byte{0}},
		{Service: 1, Sub: 2, Time: 0x03040506, Data: []byte("abc")}, {Service: 255, Sub: 254, Time: math.MaxUint32, Data: filled(189)},
	} {
		q := made(t, 3)
		if !q.Put(x.Service, x.Sub, x.Time, x.Data) || !q.Put(x.Service, x.Sub, x.Time, x.Data) {
			t.Error("Put refused", x)
		}
		second := x
		second.Count = 1
		holds(t, q, 0, 2, x, second)
		are(t, "Take", q.Take(2), []pus.Report{x, second})
		holds(t, q, 0, 2)
	}
}

// TestTruncated: what is beyond 189 bytes is cut off, and what is left goes
// into a report of layer 10.
func TestTruncated(t *testing.T) {
	sizes := []int{256, 300, 400, 445, 4096, 65535, 65536, 65536 + 189, 65536 + 190, 1 << 20}
	for n := range 205 {
		sizes = append(sizes, n)
	}
	for _, n := range sizes {
		q := made(t, 1)
		data := filled(n)
		if !q.Put(1, 2, 3, data) {
			t.Fatal("Put refused", n)
		}
		if !bytes.Equal(data, filled(n)) {
			t.Error("the data was changed", n)
		}
		want := pus.Report{Service: 1, Sub: 2, Time: 3, Data: filled(n)[:min(n, 189)]}
		holds(t, q, 0, 1, want)
		l := q.Take(1)
		are(t, "Take", l, []pus.Report{want})
		if _, err := l[0].Bytes(); err != api.OK {
			t.Errorf("%d bytes: the report is too long: %d", n, err)
		}
	}
	for _, none := range [][]byte{nil, {}} {
		q := made(t, 1)
		if !q.Put(1, 2, 3, none) {
			t.Error("Put refused")
		}
		holds(t, q, 0, 1, pus.Report{Service: 1, Sub: 2, Time: 3})
	}
}

// TestNumbersWrap: after 65535 comes 0 again, and a drop in between doesn't
// change that.
func TestNumbersWrap(t *testing.T) {
	q := made(t, 2)
	for i := range 65536*2 + 5 {
		want := uint16(i)
		if q.Count() != want || !q.Put(1, 2, 3, nil) || q.Count() != want+1 {
			t.Fatalf("Put %d: Count %d", i, q.Count())
		}
		if l := q.Take(1); len(l) != 1 || l[0].Count != want {
			t.Fatalf("Put %d: %v", i, l)
		}
	}
	q = made(t, 1)
	for range 65535 {
		q.Put(0, 0, 0, nil)
		q.Take(1)
	}
	last := pus.Report{Service: 9, Count: 65535}
	if !q.Put(9, 0, 0, nil) || q.Put(8, 0, 0, nil) {
		t.Error("Put")
	}
	holds(t, q, 1, 0, last)
	are(t, "Take", q.Take(1), []pus.Report{last})
	if !q.Put(8, 0, 0, nil) {
		t.Error("Put")
	}
	holds(t, q, 1, 1, pus.Report{Service: 8, Count: 0})
	// And one that is dropped while 65535 is next.
	q = made(t, 1)
	for range 65534 {
		q.Put(0, 0, 0, nil)
		q.Take(1)
	}
	if !q.Put(1, 0, 0, nil) || q.Put(2, 0, 0, nil) || q.Count() != 65535 {
		t.Error("Count", q.Count())
	}
	q.Take(1)
	if !q.Put(3, 0, 0, nil) {
		t.Error("Put")
	}
	holds(t, q, 1, 0, pus.Report{Service: 3, Count: 65535})
}

func TestTake(t *testing.T) {
	for wait := range api.MaxQueue + 1 {
		for _, most := range []int{math.MinInt, math.MinInt + 1, -1 << 32, -65536, -2, -1, 0, 1, 2, 3, 7, 15, 16, 17, 255, 65536, 1 << 32, 1<<32 + 1, math.MaxInt - 1, math.MaxInt, wait - 1, wait, wait + 1} {
			q := made(t, api.MaxQueue)
			put(t, q, numbered(0, wait))
			n := min(max(most, 0), wait)
			are(t, "Take", q.Take(most), numbered(0, n))
			holds(t, q, 0, uint16(wait), numbered(n, wait)...)
			// What was taken is gone, and there is room for as many.
			put(t, q, numbered(wait, wait+n))
			holds(t, q, 0, uint16(wait+n), numbered(n, wait+n)...)
			are(t, "Take of all", q.Take(math.MaxInt), numbered(n, wait+n))
			are(t, "Take of none", q.Take(5), nil)
			holds(t, q, 0, uint16(wait+n))
		}
	}
}

// TestTakeByParts: the oldest first, wherever in the ring they lie.
func TestTakeByParts(t *testing.T) {
	q := made(t, 5)
	in, out := 0, 0
	for step := range 400 {
		more := min(step%6, 5-(in-out))
		put(t, q, numbered(in, in+more))
		in += more
		holds(t, q, 0, uint16(in), numbered(out, in)...)
		fewer := min(step*3%7, in-out)
		are(t, "Take", q.Take(step*3%7), numbered(out, out+fewer))
		out += fewer
		holds(t, q, 0, uint16(in), numbered(out, in)...)
	}
}

func TestDroppedStays(t *testing.T) {
	q := made(t, 1)
	put(t, q, numbered(0, 1))
	for n := 1; n <= 65540; n++ {
		if q.Put(1, 2, 3, nil) {
			t.Fatal("put into a full queue", n)
		}
		if want := min(n, 65535); q.Dropped() != want {
			t.Fatalf("Dropped %d after %d", q.Dropped(), n)
		}
	}
	holds(t, q, 65535, 1, numbered(0, 1)...)
	are(t, "Take", q.Take(1), numbered(0, 1))
	holds(t, q, 65535, 1)
	put(t, q, numbered(1, 2))
	if q.Put(1, 2, 3, nil) {
		t.Error("put into a full queue")
	}
	holds(t, q, 65535, 2, numbered(1, 2)...)
}

func TestHas(t *testing.T) {
	l := []pus.Report{
		{Service: 1, Sub: 1}, {Service: 17, Sub: 2, Count: 4}, {Service: 1, Sub: 7, Time: 9}, {Service: 1, Sub: 1, Count: 3, Data: []byte{1, 7}},
		{Service: 2, Sub: 1}, {Service: 1, Sub: 2}, {}, {Service: 255, Sub: 255}, {Service: 1, Sub: 1, Time: 1},
	}
	for _, x := range []struct {
		service, sub byte
		want         int
	}{
		{1, 1, 3}, {17, 2, 1}, {1, 7, 1}, {2, 1, 1}, {1, 2, 1}, {0, 0, 1}, {255, 255, 1},
		{2, 17, 0}, {7, 1, 0}, {17, 1, 0}, {2, 2, 0}, {1, 0, 0}, {0, 1, 0}, {1, 255, 0}, {255, 1, 0},
	} {
		if got := queue.Has(l, x.service, x.sub); got != x.want {
			t.Errorf("Has(%d, %d) = %d, want %d", x.service, x.sub, got, x.want)
		}
		if queue.Has(nil, x.service, x.sub) != 0 || queue.Has([]pus.Report{}, x.service, x.sub) != 0 {
			t.Error("Has of none", x)
		}
	}
	many := make([]pus.Report, 70000)
	if got := queue.Has(many, 0, 0); got != 70000 {
		t.Error("Has of many", got)
	}
	q := made(t, 4)
	q.Put(5, 1, 0, nil)
	q.Put(5, 2, 0, nil)
	q.Put(5, 1, 0, nil)
	if queue.Has(q.All(), 5, 1) != 2 || queue.Has(q.All(), 5, 3) != 0 {
		t.Error("Has of a queue's")
	}
}

// TestHasEach: each service and each sub among reports of all kinds.
func TestHasEach(t *testing.T) {
	var l []pus.Report
	for i := range 65536 {
		l = append(l, pus.Report{Service: byte(i >> 8), Sub: byte(i)})
	}
	for i := 0; i < 65536; i += 257 {
		if got := queue.Has(l, byte(i>>8), byte(i)); got != 1 {
			t.Errorf("Has(%d, %d) = %d", i>>8, i&255, got)
		}
		if got := queue.Has(l[:i], byte(i>>8), byte(i)); got != 0 {
			t.Errorf("Has(%d, %d) = %d of those before", i>>8, i&255, got)
		}
	}
}

func TestNil(t *testing.T) {
	var q *queue.Queue
	if q.Put(0, 0, 0, nil) || q.Put(1, 2, 3, filled(200)) {
		t.Error("Put")
	}
	for _, most := range []int{math.MinInt, -1, 0, 1, 16, math.MaxInt} {
		if l := q.Take(most); len(l) != 0 {
			t.Error("Take", most, l)
		}
	}
	if q.Len() != 0 || q.Dropped() != 0 || q.Count() != 0 || len(q.All()) != 0 {
		t.Error("Len, Dropped, Count, All")
	}
}

// TestMemory: what was handed in and what was handed out is the caller's.
func TestMemory(t *testing.T) {
	q := made(t, 3)
	whole := []byte("data and what there is to spare")
	for i := range 3 {
		if !q.Put(byte(i), 2, 3, whole[:4]) {
			t.Fatal("Put refused")
		}
	}
	want := []pus.Report{{Service: 0, Sub: 2, Count: 0, Time: 3, Data: []byte("data")}, {Service: 1, Sub: 2, Count: 1, Time: 3, Data: []byte("data")}, {Service: 2, Sub: 2, Count: 2, Time: 3, Data: []byte("data")}}
	q.Put(9, 9, 9, whole[:4])
	if string(whole) != "data and what there is to spare" {
		t.Errorf("the argument was changed: %q", whole)
	}
	overwrite(whole)
	holds(t, q, 1, 3, want...)
	one, two := q.All(), q.All()
	for i := range one {
		overwrite(one[i].Data)
		one[i] = pus.Report{Service: 99, Count: 99}
		are(t, "an earlier All", two, want)
		holds(t, q, 1, 3, want...)
	}
	overwrite(two[0].Data)
	are(t, "the others of one All", two[1:], want[1:])
	two = q.All()
	taken := q.Take(2)
	overwrite(taken[0].Data)
	are(t, "the other of one Take", taken[1:], want[1:2])
	overwrite(taken[1].Data)
	are(t, "All before Take", two, want)
	holds(t, q, 1, 3, want[2:]...)
	q.Put(7, 7, 7, []byte("more"))
	q.Put(8, 8, 8, []byte("most"))
	overwrite(two[2].Data)
	overwrite(taken[0].Data)
	holds(t, q, 1, 5, want[2], pus.Report{Service: 7, Sub: 7, Count: 3, Time: 7, Data: []byte("more")}, pus.Report{Service: 8, Sub: 8, Count: 4, Time: 8, Data: []byte("most")})
}

// TestMemoryOfLists: appending to a result, or putting others in its place,
// changes neither the queue nor another result.
func TestMemoryOfLists(t *testing.T) {
	q := made(t, 16)
	put(t, q, numbered(0, 11))
	for range 2 {
		l := q.All()
		spoilt := append(l, make([]pus.Report, cap(l)-len(l))...)
		for i := range spoilt {
			spoilt[i] = pus.Report{Service: 99}
		}
		holds(t, q, 0, 11, numbered(0, 11)...)
	}
	one := q.Take(5)
	kept := q.All()
	for i := range one[:cap(one)] {
		one[:cap(one)][i] = pus.Report{Service: 99}
	}
	holds(t, q, 0, 11, numbered(5, 11)...)
	two := q.Take(3)
	put(t, q, numbered(11, 16))
	are(t, "All", kept, numbered(5, 11))
	are(t, "Take", two, numbered(5, 8))
}

// TestTruncatedMemory: nothing of data that is too long is kept either.
func TestTruncatedMemory(t *testing.T) {
	q := made(t, 1)
	data := filled(500)
	q.Put(1, 2, 3, data)
	overwrite(data)
	want := pus.Report{Service: 1, Sub: 2, Time: 3, Data: filled(500)[:189]}
	holds(t, q, 0, 1, want)
	l := q.Take(1)
	l[0].Data = append(l[0].Data, 1, 2, 3)
	overwrite(l[0].Data)
	for _, b := range data {
		if b != 0xee {
			t.Fatal("a result shares memory with an argument")
		}
	}
}

// plain is a queue as the document tells it.
type plain struct {
	room, dropped int
	count         uint16
	l             []pus.Report
}

func (p *plain) put(service, sub byte, time uint32, data []byte) bool {
	if len(p.l) == p.room {
		p.dropped = min(p.dropped+1, 65535)
		return false
	}
	if len(data) > 189 {
		data = data[:189]
	}
	p.l = append(p.l, pus.Report{Service: service, Sub: sub, Count: p.count, Time: time, Data: bytes.Clone(data)})
	p.count++
	return true
}

func (p *plain) take(most int) []pus.Report {
	n := min(max(most, 0), len(p.l))
	l := p.l[:n:n]
	p.l = p.l[n:]
	return l
}

// draws gives numbers below n, the same ones in each run.
func draws(seed uint32) func(n int) int {
	return func(n int) int {
		seed = seed*1664525 + 1013904223
		return int(seed>>8) % n
	}
}

// TestAgainstPlain drives queues of each room through long mixes of calls; a
// second queue beside each stays as it was.
func TestAgainstPlain(t *testing.T) {
	for room := 1; room <= api.MaxQueue; room++ {
		q, p := made(t, room), &plain{room: room}
		other := made(t, room)
		put(t, other, numbered(0, 1))
		draw := draws(uint32(room))
		for step := range 1500 {
			if draw(4) > 0 {
				service, sub, time, data := byte(draw(4)), byte(draw(4)), uint32(step)<<8, filled(draw(220))
				if got, want := q.Put(service, sub, time, data), p.put(service, sub, time, data); got != want {
					t.Fatalf("room %d, step %d: Put %t, want %t", room, step, got, want)
				}
			} else {
				most := draw(room+4) - 2
				are(t, "Take", q.Take(most), p.take(most))
			}
			holds(t, q, p.dropped, p.count, p.l...)
			if t.Failed() {
				t.Fatalf("room %d, step %d", room, step)
			}
		}
		holds(t, other, 0, 1, numbered(0, 1)...)
	}
}
