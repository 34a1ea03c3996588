package guard_test

import (
	"bytes"
	"math"
	"testing"

	"aerie/api"
	"aerie/bits"
	"aerie/cell"
	"aerie/guard"
)

const last = math.MaxUint32 // the greatest number

// made is a cell whose data is a text.
func made(seq uint32, text string) []byte {
	c, err := cell.Make(seq, []byte(text))
	if err != api.OK {
		panic("no cell")
	}
	return c
}

// bad is a cell with a byte of its checksum spoilt.
func bad(seq uint32, text string) []byte {
	c := made(seq, text)
	c[len(c)-1] ^= 1
	return c
}

// filled are n bytes, the same ones in each run.
func filled(n int) []byte {
	p := make([]byte, n)
	for i := range p {
		p[i] = byte(i*7 + n)
	}
	return p
}

// filledWith is a memory in which this was written.
func filledWith(t *testing.T, text string) *guard.Memory {
	t.Helper()
	m := guard.New()
	is(t, "Fill", m.Fill([]byte(text)), api.OK)
	return m
}

// is checks an error.
func is(t *testing.T, name string, got, want api.Errno) {
	t.Helper()
	if got != want {
		t.Fatalf("%s: error %d, want %d", name, got, want)
	}
}

// holds checks the bytes of the three copies.
func holds(t *testing.T, name string, m *guard.Memory, want ...[]byte) {
	t.Helper()
	got := m.Copies()
	if len(got) != 3 || len(want) != 3 {
		t.Fatalf("%s: %d copies, want %d", name, len(got), len(want))
	}
	for i := range got {
		if !bytes.Equal(got[i], want[i]) {
			t.Fatalf("%s: copy %d is %x, want %x", name, i, got[i], want[i])
		}
	}
}

// reads checks what Read gives, zero values among it.
func reads(t *testing.T, name string, m *guard.Memory, seq uint32, text string, err api.Errno) {
	t.Helper()
	gotSeq, got, gotErr := m.Read()
	if gotSeq != seq || string(got) != text || gotErr != err {
		t.Fatalf("%s: Read = %d, %q, %d, want %d, %q, %d", name, gotSeq, got, gotErr, seq, text, err)
	}
	if err != api.OK && got != nil {
		t.Fatalf("%s: data beside an error", name)
	}
}

// scrubs checks what Scrub gives.
func scrubs(t *testing.T, name string, m *guard.Memory, differed int, err api.Errno) {
	t.Helper()
	if got, gotErr := m.Scrub(); got != differed || gotErr != err {
		t.Fatalf("%s: Scrub = %d, %d, want %d, %d", name, got, gotErr, differed, err)
	}
}

// overwrite overwrites a list, and what capacity it has to spare.
func overwrite(p []byte) {
	p = p[:cap(p)]
	for i := range p {
		p[i] = 0xee
	}
}

func TestInitially(t *testing.T) {
	for _, m := range []*guard.Memory{guard.New(), guard.Of(), guard.Of(nil...), guard.Of(nil, []byte{}, nil), guard.Of(nil), guard.Of(nil, nil, nil, made(1, "a"), made(1, "a"))} {
		holds(t, "new", m, nil, nil, nil)
		reads(t, "new", m, 0, "", api.ErrNone)
		is(t, "Finish", m.Finish(), api.ErrState)
		scrubs(t, "new", m, 0, api.ErrNone)
		if m.Pending() || m.Good() != 0 {
			t.Errorf("new: pending %t, good %s", m.Pending(), m.Good().Text())
		}
		for copy := range 3 {
			is(t, "Flip", m.Flip(copy, 0, 1), api.ErrIndex)
		}
		m.Reset()
		holds(t, "after all", m, nil, nil, nil)
	}
}

func TestOf(t *testing.T) {
	a, b, c, d := made(5, "a"), made(5, "b"), made(6, "c"), made(9, "d")
	junk := []byte("junk")
	for _, x := range []struct{ l, want [][]byte }{
		{[][]byte{a}, [][]byte{a, nil, nil}},
		{[][]byte{a, b}, [][]byte{a, b, nil}},
		{[][]byte{a, b, c}, [][]byte{a, b, c}},
		{[][]byte{a, b, c, d}, [][]byte{a, b, c}},
		{[][]byte{c, b, a, d, d, d}, [][]byte{c, b, a}},
		{[][]byte{nil, nil, a}, [][]byte{nil, nil, a}},
		{[][]byte{junk, {}, bad(1, "x")}, [][]byte{junk, nil, bad(1, "x")}},
		{[][]byte{filled(5000), a, nil}, [][]byte{filled(5000), a, nil}},
	} {
		m := guard.Of(x.l...)
		holds(t, "Of", m, x.want...)
		if m.Pending() {
			t.Error("Of: a write is pending")
		}
		is(t, "Finish", m.Finish(), api.ErrState)
	}
	many := make([][]byte, 1000)
	many[2] = a
	holds(t, "of many", guard.Of(many...), nil, nil, a)
}

// TestOfMemory: what was handed in and what was handed out is the caller's.
func TestOfMemory(t *testing.T) {
	whole := append(made(1, "a"), "spare"...)
	same := whole[:len(made(1, "a"))]
	before := bytes.Clone(whole)
	m := guard.Of(same, same, same)
	is(t, "Flip", m.Flip(1, 0, 0xff), api.OK)
	if !bytes.Equal(whole, before) {
		t.Errorf("Flip changed what was handed in: %x", whole)
	}
	spoilt := made(1, "a")
	spoilt[0] ^= 0xff
	holds(t, "one slice thrice", m, made(1, "a"), spoilt, made(1, "a"))
	overwrite(whole)
	holds(t, "the argument overwritten", m, made(1, "a"), spoilt, made(1, "a"))
}

func TestCopiesMemory(t *testing.T) {
	m := filledWith(t, "a")
	want := [][]byte{made(1, "a"), made(1, "a"), made(1, "a")}
	one, two := m.Copies(), m.Copies()
	for i := range one {
		overwrite(one[i])
		for j := i + 1; j < 3; j++ {
			if !bytes.Equal(one[j], want[j]) {
				t.Errorf("copies %d and %d of one result share memory", i, j)
			}
		}
		if !bytes.Equal(two[i], want[i]) {
			t.Errorf("copy %d of two results shares memory", i)
		}
	}
	clear(one[:cap(one)])
	holds(t, "the results overwritten", m, want...)
	is(t, "Flip", m.Flip(0, 0, 1), api.OK)
	if !bytes.Equal(two[0], want[0]) {
		t.Error("Flip changed an earlier result")
	}
	is(t, "Fill", m.Fill([]byte("b")), api.OK)
	if !bytes.Equal(two[1], want[1]) {
		t.Error("Fill changed an earlier result")
	}
}

func TestReadMemory(t *testing.T) {
	m := filledWith(t, "data")
	_, one, _ := m.Read()
	_, two, _ := m.Read()
	overwrite(one)
	if string(two) != "data" {
		t.Errorf("two results share memory: %q", two)
	}
	holds(t, "the result overwritten", m, made(1, "data"), made(1, "data"), made(1, "data"))
}

func TestRead(t *testing.T) {
	for _, x := range []struct {
		l    [][]byte
		seq  uint32
		text string
		err  api.Errno
	}{
		{[][]byte{made(5, "a"), made(5, "a"), made(6, "b")}, 6, "b", api.OK}, {[][]byte{made(6, "b"), made(5, "a"), made(5, "a")}, 6, "b", api.OK}, {[][]byte{made(5, "a"), made(6, "b"), made(5, "a")}, 6, "b", api.OK},
		{[][]byte{made(5, "a"), made(5, "b"), made(5, "b")}, 5, "a", api.OK}, {[][]byte{nil, made(5, "a"), made(5, "b")}, 5, "a", api.OK}, {[][]byte{made(0, ""), made(0, ""), nil}, 0, "", api.OK},
		{[][]byte{made(last, "a"), made(0, "b"), made(1, "b")}, last, "a", api.OK}, {[][]byte{bad(9, "x"), made(5, "a"), made(6, "b")}, 6, "b", api.OK}, {[][]byte{made(5, "a"), made(6, "b"), bad(9, "x")}, 6, "b", api.OK},
		{[][]byte{made(5, "a"), bad(5, "a"), bad(5, "a")}, 0, "", api.ErrNone}, {[][]byte{nil, nil, made(5, "a")}, 0, "", api.ErrNone}, {[][]byte{nil, made(5, "a"), made(5, "a")[:8]}, 0, "", api.ErrNone},
		{[][]byte{made(9, string(filled(200))), made(5, "a"), nil}, 9, string(filled(200)), api.OK},
	} {
		m := guard.Of(x.l...)
		reads(t, "Read", m, x.seq, x.text, x.err)
		holds(t, "after Read", m, x.l...)
	}
}

// TestBeginNumber: one above the greatest number of any copy that can be
// parsed, whether the vote passes it over or not. Fill takes the same.
func TestBeginNumber(t *testing.T) {
	for _, x := range []struct {
		l    [][]byte
		want uint32
	}{
		{nil, 1}, {[][]byte{bad(7, "a"), bad(8, "b"), {1, 2, 3}}, 1}, {[][]byte{made(0, "a"), made(0, "a"), made(0, "a")}, 1}, {[][]byte{made(0, ""), nil, nil}, 1},
		{[][]byte{made(5, "a"), made(5, "a"), made(5, "a")}, 6}, {[][]byte{made(5, "a"), made(7, "b"), made(6, "c")}, 8}, {[][]byte{made(7, "a"), made(6, "b"), made(5, "c")}, 8}, {[][]byte{made(5, "a"), made(6, "b"), made(7, "c")}, 8},
		// One alone has no vote, but a number; what can't be parsed has none.
		{[][]byte{nil, nil, made(41, "a")}, 42}, {[][]byte{bad(99, "x"), made(41, "a"), nil}, 42}, {[][]byte{made(41, "a"), made(3, "b"), bad(99, "x")}, 42},
		{[][]byte{made(255, "a"), made(255, "a"), nil}, 256}, {[][]byte{made(1<<31-1, "a"), made(1, "a"), nil}, 1 << 31}, {[][]byte{made(1<<31, "a"), made(1, "a"), nil}, 1<<31 + 1},
		{[][]byte{made(last-1, "a"), made(last-1, "a"), made(last-1, "a")}, last}, {[][]byte{nil, nil, made(last-1, "a")}, last}, {[][]byte{bad(last, "x"), made(1, "a"), made(1, "a")}, 2},
	} {
		m := guard.Of(x.l...)
		is(t, "Begin", m.Begin([]byte("new")), api.OK)
		want := made(x.want, "new")
		rest := guard.Of(x.l...).Copies()
		holds(t, "after Begin", m, want, rest[1], rest[2])
		if !m.Pending() {
			t.Error("after Begin: no write is pending")
		}
		is(t, "Finish", m.Finish(), api.OK)
		holds(t, "after Finish", m, want, want, want)
		reads(t, "after Finish", m, x.want, "new", api.OK)
		m = guard.Of(x.l...)
		is(t, "Fill", m.Fill([]byte("new")), api.OK)
		holds(t, "after Fill", m, want, want, want)
	}
}

// TestBeginSizes: no byte, exactly MaxData bytes, and more.
func TestBeginSizes(t *testing.T) {
	for _, n := range []int{0, 1, 2, api.MaxData - 1, api.MaxData} {
		m := filledWith(t, "a")
		is(t, "Begin", m.Begin(filled(n)), api.OK)
		holds(t, "after Begin", m, made(2, string(filled(n))), made(1, "a"), made(1, "a"))
		is(t, "Finish", m.Finish(), api.OK)
		reads(t, "after Finish", m, 2, string(filled(n)), api.OK)
		is(t, "Fill", m.Fill(filled(n)), api.OK)
		reads(t, "after Fill", m, 3, string(filled(n)), api.OK)
	}
	for _, n := range []int{api.MaxData + 1, api.MaxData + 2, 256, 456, 65536, 65536 + 10} {
		m := filledWith(t, "a")
		is(t, "Begin", m.Begin(filled(n)), api.ErrLong)
		is(t, "Fill", m.Fill(filled(n)), api.ErrLong)
		holds(t, "too long", m, made(1, "a"), made(1, "a"), made(1, "a"))
		if m.Pending() {
			t.Error("too long: a write is pending")
		}
		is(t, "Finish", m.Finish(), api.ErrState)
	}
}

// TestBeginOrder: ErrLong, then ErrState, then ErrFull; nothing changes.
func TestBeginOrder(t *testing.T) {
	long := filled(api.MaxData + 1)
	full := guard.Of(made(1, "a"), made(1, "a"), made(last, "z"))
	is(t, "long, at the last number", full.Begin(long), api.ErrLong)
	is(t, "at the last number", full.Begin([]byte("b")), api.ErrFull)
	is(t, "Fill, long, at the last number", full.Fill(long), api.ErrLong)
	is(t, "Fill at the last number", full.Fill([]byte("b")), api.ErrFull)
	is(t, "at the last number, no data", full.Begin(nil), api.ErrFull)
	if full.Pending() {
		t.Error("a refused write is pending")
	}
	holds(t, "full", full, made(1, "a"), made(1, "a"), made(last, "z"))

	m := guard.Of(made(last-1, "a"), made(last-1, "a"), made(last-1, "a"))
	is(t, "Begin", m.Begin([]byte("b")), api.OK) // copy 0 has the last number now
	is(t, "long, pending, at the last number", m.Begin(long), api.ErrLong)
	is(t, "pending, at the last number", m.Begin([]byte("c")), api.ErrState)
	holds(t, "pending", m, made(last, "b"), made(last-1, "a"), made(last-1, "a"))
	is(t, "Finish", m.Finish(), api.OK)
	holds(t, "finished", m, made(last, "b"), made(last, "b"), made(last, "b"))
	is(t, "at the last number", m.Begin([]byte("c")), api.ErrFull)

	m = filledWith(t, "a")
	is(t, "Begin", m.Begin([]byte("b")), api.OK)
	is(t, "long, pending", m.Begin(long), api.ErrLong)
	is(t, "pending", m.Begin([]byte("c")), api.ErrState)
	is(t, "pending, no data", m.Begin(nil), api.ErrState)
	is(t, "Finish", m.Finish(), api.OK)
	reads(t, "finished", m, 2, "b", api.OK)
}

// TestBeginMemory: the write that is pending is kept apart from what was
// handed in, and from copy 0.
func TestBeginMemory(t *testing.T) {
	whole := []byte("data and more")
	m := filledWith(t, "a")
	is(t, "Begin", m.Begin(whole[:4]), api.OK)
	if string(whole) != "data and more" {
		t.Errorf("the argument was changed: %q", whole)
	}
	overwrite(whole)
	want := made(2, "data")
	holds(t, "the argument overwritten", m, want, made(1, "a"), made(1, "a"))
	is(t, "Finish", m.Finish(), api.OK)
	holds(t, "finished", m, want, want, want)

	fill := []byte("fill and more")
	is(t, "Fill", m.Fill(fill[:4]), api.OK)
	if string(fill) != "fill and more" {
		t.Errorf("the argument was changed: %q", fill)
	}
	overwrite(fill)
	holds(t, "filled", m, made(3, "fill"), made(3, "fill"), made(3, "fill"))
}

// TestFinish: the copies 1 and 2 become the cell that was begun, whatever
// became of the copies since; copy 0 stays as it is.
func TestFinish(t *testing.T) {
	m := filledWith(t, "a")
	is(t, "none pending", m.Finish(), api.ErrState)
	holds(t, "none pending", m, made(1, "a"), made(1, "a"), made(1, "a"))
	is(t, "Begin", m.Begin([]byte("b")), api.OK)
	want := made(2, "b")
	for copy := range 3 {
		is(t, "Flip", m.Flip(copy, 3, 0xf0), api.OK)
	}
	spoilt := made(2, "b")
	spoilt[3] ^= 0xf0
	is(t, "Finish", m.Finish(), api.OK)
	holds(t, "spoilt between", m, spoilt, want, want)
	reads(t, "spoilt between", m, 2, "b", api.OK)
	if m.Pending() {
		t.Error("finished, and pending")
	}
	is(t, "twice", m.Finish(), api.ErrState)
	holds(t, "twice", m, spoilt, want, want)
	// Each copy has memory of its own.
	is(t, "Flip", m.Flip(1, 0, 1), api.OK)
	other := made(2, "b")
	other[0] ^= 1
	holds(t, "one spoilt", m, spoilt, other, want)
	// The next write begins as any.
	is(t, "Begin", m.Begin([]byte("c")), api.OK)
	holds(t, "the next one", m, made(3, "c"), other, want)
	is(t, "Finish", m.Finish(), api.OK)
	is(t, "Flip", m.Flip(2, 0, 1), api.OK)
	other = made(3, "c")
	other[0] ^= 1
	holds(t, "finished", m, made(3, "c"), made(3, "c"), other)
}

func TestPendingAndReset(t *testing.T) {
	m := filledWith(t, "a")
	m.Reset()
	holds(t, "none pending", m, made(1, "a"), made(1, "a"), made(1, "a"))
	for range 2 {
		is(t, "Begin", m.Begin(nil), api.OK)
		if !m.Pending() || !m.Pending() {
			t.Fatal("begun, and not pending")
		}
		before := m.Copies()
		m.Reset()
		if m.Pending() {
			t.Fatal("reset, and pending")
		}
		holds(t, "after Reset", m, before...)
		is(t, "Finish", m.Finish(), api.ErrState)
		m.Reset()
		holds(t, "after two", m, before...)
	}
	// Copy 0 has the number of the write that was cancelled.
	holds(t, "cancelled twice", m, made(3, ""), made(1, "a"), made(1, "a"))
	is(t, "Begin", m.Begin([]byte("d")), api.OK)
	is(t, "Finish", m.Finish(), api.OK)
	reads(t, "the next one", m, 4, "d", api.OK)
}

// TestPendingOfRefused: what is refused while a write is pending leaves it
// pending, and what was begun is what is finished.
func TestPendingOfRefused(t *testing.T) {
	m := filledWith(t, "a")
	is(t, "Begin", m.Begin([]byte("b")), api.OK)
	is(t, "Begin", m.Begin([]byte("c")), api.ErrState)
	scrubs(t, "pending", m, 0, api.ErrState)
	is(t, "Fill", m.Fill(filled(201)), api.ErrLong)
	is(t, "Flip", m.Flip(3, 0, 1), api.ErrIndex)
	reads(t, "pending", m, 2, "b", api.OK)
	holds(t, "pending", m, made(2, "b"), made(1, "a"), made(1, "a"))
	if !m.Pending() {
		t.Error("no write is pending any more")
	}
	is(t, "Finish", m.Finish(), api.OK)
	holds(t, "finished", m, made(2, "b"), made(2, "b"), made(2, "b"))
}

func TestFlip(t *testing.T) {
	cells := [][]byte{made(1, "a"), made(2, "longer"), made(3, "")}
	for copy := range 3 {
		size := len(cells[copy])
		for at := range size {
			for _, mask := range []byte{0, 1, 0x80, 0x5a, 0xff} {
				m := guard.Of(cells...)
				is(t, "Flip", m.Flip(copy, at, mask), api.OK)
				want := guard.Of(cells...).Copies()
				want[copy][at] ^= mask
				holds(t, "flipped", m, want...)
				is(t, "Flip", m.Flip(copy, at, mask), api.OK)
				holds(t, "flipped twice", m, cells...)
			}
		}
		for _, at := range []int{-1, -size, -1 << 63, size, size + 1, size + 100, math.MaxInt} {
			m := guard.Of(cells...)
			is(t, "no such byte", m.Flip(copy, at, 0xff), api.ErrIndex)
			is(t, "no such byte, mask 0", m.Flip(copy, at, 0), api.ErrIndex)
			holds(t, "no such byte", m, cells...)
		}
	}
	for _, copy := range []int{-1, -3, math.MinInt, 3, 4, 256, math.MaxInt} {
		m := guard.Of(cells...)
		is(t, "no such copy", m.Flip(copy, 0, 0xff), api.ErrIndex)
		is(t, "no such copy nor byte", m.Flip(copy, -1, 0xff), api.ErrIndex)
		holds(t, "no such copy", m, cells...)
	}
	m := guard.Of(nil, []byte{7})
	is(t, "an empty copy", m.Flip(0, 0, 1), api.ErrIndex)
	is(t, "a copy that isn't there", m.Flip(2, 0, 0), api.ErrIndex)
	is(t, "a copy of one byte", m.Flip(1, 0, 1), api.OK)
	holds(t, "a copy of one byte", m, nil, []byte{6}, nil)
}

func TestGood(t *testing.T) {
	for set := range 8 {
		want := bits.Set(set)
		l := [][]byte{bad(1, "a"), nil, made(9, "x")[:8]}
		for i := range want.All() {
			l[i] = made(uint32(i), "a")
		}
		m := guard.Of(append(l, made(1, "a"))...)
		if got := m.Good(); got != want {
			t.Errorf("Good = %s, want %s", got.Text(), want.Text())
		}
		holds(t, "after Good", m, l...)
	}
}

func TestScrub(t *testing.T) {
	a, b, other := made(5, "a"), made(6, "b"), made(6, "other")
	for _, x := range []struct {
		l        [][]byte
		want     []byte
		differed int
	}{
		{[][]byte{a, a, a}, a, 0}, {[][]byte{b, a, a}, b, 2}, {[][]byte{a, b, a}, b, 2}, {[][]byte{a, a, b}, b, 2},
		{[][]byte{b, b, a}, b, 1}, {[][]byte{a, b, b}, b, 1}, {[][]byte{b, a, b}, b, 1}, {[][]byte{b, other, other}, b, 2}, {[][]byte{other, b, a}, other, 2},
		{[][]byte{a, a, nil}, a, 1}, {[][]byte{nil, a, a}, a, 1}, {[][]byte{a, bad(5, "a"), a}, a, 1}, {[][]byte{a, b, bad(7, "c")}, b, 2}, {[][]byte{bad(7, "c"), a, b}, b, 2},
		{[][]byte{made(0, ""), made(0, ""), nil}, made(0, ""), 1}, {[][]byte{made(last, "z"), a, a}, made(last, "z"), 2},
		{[][]byte{made(last, string(filled(200))), a, filled(300)}, made(last, string(filled(200))), 2},
	} {
		m := guard.Of(x.l...)
		scrubs(t, "first", m, x.differed, api.OK)
		holds(t, "scrubbed", m, x.want, x.want, x.want)
		scrubs(t, "second", m, 0, api.OK)
		holds(t, "scrubbed twice", m, x.want, x.want, x.want)
		// Each copy has memory of its own.
		is(t, "Flip", m.Flip(1, 0, 1), api.OK)
		spoilt := bytes.Clone(x.want)
		spoilt[0] ^= 1
		holds(t, "one spoilt", m, x.want, spoilt, x.want)
		scrubs(t, "one spoilt", m, 1, api.OK)
		holds(t, "mended", m, x.want, x.want, x.want)
	}
}

func TestScrubRefused(t *testing.T) {
	for _, l := range [][][]byte{
		{nil, nil, nil}, {made(5, "a"), nil, nil}, {nil, made(5, "a"), bad(5, "a")}, {bad(5, "a"), bad(5, "a"), made(5, "a")}, {bad(5, "a"), bad(5, "a"), bad(5, "a")},
	} {
		m := guard.Of(l...)
		scrubs(t, "too few", m, 0, api.ErrNone)
		holds(t, "too few", m, l...)
		is(t, "Begin", m.Begin([]byte("b")), api.OK)
		before := m.Copies()
		scrubs(t, "pending", m, 0, api.ErrState)
		holds(t, "pending", m, before...)
		if !m.Pending() {
			t.Error("Scrub cancelled the pending write")
		}
	}
	// Too few, and a write is pending.
	m := guard.New()
	is(t, "Begin", m.Begin([]byte("b")), api.OK)
	is(t, "Flip", m.Flip(0, 0, 1), api.OK)
	scrubs(t, "pending, none good", m, 0, api.ErrState)
	m.Reset()
	scrubs(t, "none good", m, 0, api.ErrNone)
}

func TestFill(t *testing.T) {
	for _, x := range []struct {
		l   [][]byte
		seq uint32
	}{
		{nil, 1}, {[][]byte{made(5, "a"), made(5, "a"), made(5, "a")}, 6}, {[][]byte{bad(5, "a"), bad(6, "a"), bad(7, "a")}, 1}, {[][]byte{nil, bad(9, "x"), made(3, "a")}, 4},
		{[][]byte{filled(5000), {1}, nil}, 1},
	} {
		m := guard.Of(x.l...)
		is(t, "Fill", m.Fill([]byte("f")), api.OK)
		want := made(x.seq, "f")
		holds(t, "filled", m, want, want, want)
		scrubs(t, "filled", m, 0, api.OK)
		is(t, "Flip", m.Flip(0, 0, 1), api.OK)
		spoilt := made(x.seq, "f")
		spoilt[0] ^= 1
		holds(t, "one spoilt", m, spoilt, want, want)
	}
}

// TestFillPending: a Fill that is OK cancels a pending write, another doesn't.
func TestFillPending(t *testing.T) {
	m := filledWith(t, "a")
	is(t, "Begin", m.Begin([]byte("b")), api.OK)
	is(t, "Fill", m.Fill([]byte("f")), api.OK)
	holds(t, "filled", m, made(3, "f"), made(3, "f"), made(3, "f"))
	if m.Pending() {
		t.Error("filled, and pending")
	}
	is(t, "Finish", m.Finish(), api.ErrState)
	holds(t, "after Finish", m, made(3, "f"), made(3, "f"), made(3, "f"))

	m = guard.Of(made(last-1, "a"), made(last-1, "a"), made(last-1, "a"))
	is(t, "Begin", m.Begin([]byte("b")), api.OK)
	is(t, "Fill, too long", m.Fill(filled(201)), api.ErrLong)
	is(t, "Fill at the last number", m.Fill([]byte("f")), api.ErrFull)
	holds(t, "refused", m, made(last, "b"), made(last-1, "a"), made(last-1, "a"))
	if !m.Pending() {
		t.Error("a refused Fill cancelled the pending write")
	}
	is(t, "Finish", m.Finish(), api.OK)
	holds(t, "finished", m, made(last, "b"), made(last, "b"), made(last, "b"))
	is(t, "Fill at the last number", m.Fill([]byte("f")), api.ErrFull)
	holds(t, "full", m, made(last, "b"), made(last, "b"), made(last, "b"))
	// What has the last number is spoilt: there are numbers again.
	for copy := range 3 {
		is(t, "Flip", m.Flip(copy, 0, 1), api.OK)
	}
	is(t, "Fill", m.Fill([]byte("f")), api.OK)
	reads(t, "filled", m, 1, "f", api.OK)
}

func TestExample(t *testing.T) {
	m := filledWith(t, "a")
	is(t, "Begin", m.Begin([]byte("b")), api.OK)
	m.Reset()
	reads(t, "Reset", m, 2, "b", api.OK)
	is(t, "Flip", m.Flip(0, 6, 1), api.OK)
	reads(t, "copy 0 corrupted", m, 1, "a", api.OK)
}

// TestSurvives: cut behind the first phase, with one copy spoilt in each of its
// bytes, before the write or since: Read gives what was written before or what
// was being written.
func TestSurvives(t *testing.T) {
	for _, since := range []bool{false, true} {
		for copy := range 3 {
			for at := range len(made(1, "old")) {
				m := filledWith(t, "old")
				if !since {
					is(t, "Flip", m.Flip(copy, at, 0x10), api.OK)
				}
				is(t, "Begin", m.Begin([]byte("longer")), api.OK)
				if since {
					is(t, "Flip", m.Flip(copy, at, 0x10), api.OK)
				}
				onlyOld := since && copy == 0
				cut := guard.Of(m.Copies()...) // what a loss of power leaves
				survives(t, cut, onlyOld)
				m.Reset()
				survives(t, m, onlyOld)
				again(t, cut)
				again(t, m)
			}
		}
	}
}

// survives checks that Read gives the old data or the new one: the old one, if
// the only copy with the new one is spoilt.
func survives(t *testing.T, m *guard.Memory, old bool) {
	t.Helper()
	if old {
		reads(t, "cut", m, 1, "old", api.OK)
		return
	}
	reads(t, "cut", m, 2, "longer", api.OK)
}

// again checks that after a cut a Scrub and another write do their work.
func again(t *testing.T, m *guard.Memory) {
	t.Helper()
	seq, data, _ := m.Read()
	if n, err := m.Scrub(); n == 0 || err != api.OK {
		t.Fatalf("Scrub = %d, %d", n, err)
	}
	reads(t, "scrubbed", m, seq, string(data), api.OK)
	is(t, "Begin", m.Begin([]byte("next")), api.OK)
	is(t, "Finish", m.Finish(), api.OK)
	reads(t, "the next one", m, seq+1, "next", api.OK)
}

// TestSurvivesFinished: both phases done, and any one copy spoilt, also
// between them.
func TestSurvivesFinished(t *testing.T) {
	for copy := range 3 {
		for at := range len(made(2, "new")) {
			m := filledWith(t, "old")
			is(t, "Begin", m.Begin([]byte("new")), api.OK)
			is(t, "Finish", m.Finish(), api.OK)
			is(t, "Flip", m.Flip(copy, at, 1), api.OK)
			reads(t, "one spoilt after", m, 2, "new", api.OK)
			scrubs(t, "one spoilt after", m, 1, api.OK)

			m = filledWith(t, "old")
			is(t, "Begin", m.Begin([]byte("new")), api.OK)
			is(t, "Flip", m.Flip(copy, at, 1), api.OK)
			is(t, "Finish", m.Finish(), api.OK)
			reads(t, "one spoilt between", m, 2, "new", api.OK)
		}
	}
}

func TestNilMemory(t *testing.T) {
	var m *guard.Memory
	for range 2 {
		reads(t, "nil", m, 0, "", api.ErrNone)
		is(t, "Begin", m.Begin([]byte("a")), api.ErrNone)
		is(t, "Begin, too long", m.Begin(filled(201)), api.ErrNone)
		is(t, "Finish", m.Finish(), api.ErrNone)
		is(t, "Flip", m.Flip(0, 0, 1), api.ErrNone)
		is(t, "Flip, no such copy", m.Flip(9, -1, 1), api.ErrNone)
		scrubs(t, "nil", m, 0, api.ErrNone)
		is(t, "Fill", m.Fill([]byte("a")), api.ErrNone)
		is(t, "Fill, too long", m.Fill(filled(201)), api.ErrNone)
		if m.Pending() || m.Good() != 0 || len(m.Copies()) != 0 {
			t.Errorf("nil: pending %t, good %s, %d copies", m.Pending(), m.Good().Text(), len(m.Copies()))
		}
		m.Reset()
	}
}

// TestTwoMemories: what one does shows in no other.
func TestTwoMemories(t *testing.T) {
	one, two := guard.New(), guard.New()
	is(t, "Begin", one.Begin([]byte("a")), api.OK)
	if two.Pending() {
		t.Error("a write is pending in another memory")
	}
	is(t, "Finish", two.Finish(), api.ErrState)
	holds(t, "another", two, nil, nil, nil)
	three := guard.Of(one.Copies()...)
	is(t, "Finish", one.Finish(), api.OK)
	holds(t, "of its copies", three, made(1, "a"), nil, nil)
	if three.Pending() {
		t.Error("a pending write was taken over from the copies")
	}
}

// model is a memory told plainly, from cells' calls alone.
type model struct {
	copies  [3][]byte
	pending []byte
}

func (d *model) next(p []byte) ([]byte, api.Errno) {
	top := -1
	for _, c := range d.copies {
		if seq, _, err := cell.Parse(c); err == api.OK {
			top = max(top, int(seq))
		}
	}
	if len(p) > api.MaxData {
		return nil, api.ErrLong
	}
	if top == last {
		return nil, api.ErrFull
	}
	c, err := cell.Make(uint32(max(top+1, 1)), p)
	return c, err
}

func (d *model) begin(p []byte) api.Errno {
	c, err := d.next(p)
	if err == api.ErrLong {
		return err
	}
	if d.pending != nil {
		return api.ErrState
	}
	if err != api.OK {
		return err
	}
	d.copies[0], d.pending = bytes.Clone(c), c
	return api.OK
}

func (d *model) finish() api.Errno {
	if d.pending == nil {
		return api.ErrState
	}
	d.copies[1], d.copies[2] = bytes.Clone(d.pending), bytes.Clone(d.pending)
	d.pending = nil
	return api.OK
}

func (d *model) fill(p []byte) api.Errno {
	c, err := d.next(p)
	if err == api.OK {
		d.pending = nil
		d.copies = [3][]byte{bytes.Clone(c), bytes.Clone(c), bytes.Clone(c)}
	}
	return err
}

func (d *model) scrub() (int, api.Errno) {
	if d.pending != nil {
		return 0, api.ErrState
	}
	seq, data, err := cell.Vote(d.copies[:]...)
	if err != api.OK {
		return 0, err
	}
	n := 0
	for i, c := range d.copies {
		want, _ := cell.Make(seq, data)
		if !bytes.Equal(c, want) {
			n++
		}
		d.copies[i] = want
	}
	return n, api.OK
}

func (d *model) flip(copy, at int, mask byte) api.Errno {
	if copy < 0 || copy > 2 || at < 0 || at >= len(d.copies[copy]) {
		return api.ErrIndex
	}
	d.copies[copy][at] ^= mask
	return api.OK
}

// TestLongMix: long mixes of calls, against the model.
func TestLongMix(t *testing.T) {
	n := uint32(7)
	draw := func(below int) int {
		n = n*1664525 + 1013904223
		return int(n>>8) % below
	}
	for round := range 300 {
		m, d := guard.New(), &model{}
		if round%3 == 0 {
			near := made(last-uint32(draw(6)), "x")
			m, d = guard.Of(near), &model{copies: [3][]byte{bytes.Clone(near), nil, nil}}
		}
		for range 60 {
			p := filled(draw(6))
			if draw(12) == 0 {
				p = filled(200 + draw(3))
			}
			var got, want api.Errno
			switch draw(8) {
			case 0, 1:
				got, want = m.Begin(p), d.begin(p)
			case 2:
				got, want = m.Finish(), d.finish()
			case 3:
				got, want = m.Fill(p), d.fill(p)
			case 4:
				m.Reset()
				d.pending = nil
			case 5:
				var gotN, wantN int
				gotN, got = m.Scrub()
				wantN, want = d.scrub()
				if gotN != wantN {
					t.Fatalf("Scrub = %d, want %d", gotN, wantN)
				}
			default:
				copy, at, mask := draw(4)-draw(2), draw(16)-draw(2), byte(draw(256))
				got, want = m.Flip(copy, at, mask), d.flip(copy, at, mask)
			}
			is(t, "a call of the mix", got, want)
			fits(t, m, d)
		}
	}
}

// fits checks a memory against the model.
func fits(t *testing.T, m *guard.Memory, d *model) {
	t.Helper()
	holds(t, "the mix", m, d.copies[:]...)
	seq, data, err := cell.Vote(d.copies[:]...)
	reads(t, "the mix", m, seq, string(data), err)
	if m.Pending() != (d.pending != nil) || m.Good() != cell.Good(d.copies[:]...) {
		t.Fatalf("the mix: pending %t, good %s", m.Pending(), m.Good().Text())
	}
}
