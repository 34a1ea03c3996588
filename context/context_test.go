package context_test

import (
	"bytes"
	"math"
	"testing"

	"aerie/api"
	"aerie/bits"
	"aerie/cell"
	"aerie/context"
	"aerie/guard"
)

const last = math.MaxUint32 // the greatest number of a cell

// ordinary is a context in which each field has a value of its own.
func ordinary() context.Context {
	return context.Context{
		Failed:    0x8102,
		Inhibited: 0x1234,
		Retry:     [6]uint8{1, 2, 3, 254, 255, 0},
		Chain:     [6]int8{-1, 0, 1, 14, 15, 7},
		Mode:      3,
		Resets:    0xabcd,
		Exhausted: true,
		Inhibit:   0x15,
	}
}

// ordinaryBytes are its bytes, laid by hand.
func ordinaryBytes() []byte {
	return []byte{0x81, 0x02, 0x12, 0x34, 1, 2, 3, 254, 255, 0, 0, 1, 2, 15, 16, 8, 3, 0xab, 0xcd, 1, 0x15}
}

// laid is what has this context's bytes, field by field.
func laid(c context.Context) []byte {
	p := []byte{byte(c.Failed >> 8), byte(c.Failed), byte(c.Inhibited >> 8), byte(c.Inhibited)}
	p = append(p, c.Retry[:]...)
	for _, unit := range c.Chain {
		p = append(p, byte(int(unit)+1))
	}
	p = append(p, c.Mode, byte(c.Resets>>8), byte(c.Resets), 0, c.Inhibit)
	if c.Exhausted {
		p[19] = 1
	}
	return p
}

// overwrite overwrites a list, and what capacity it has to spare.
func overwrite(p []byte) {
	p = p[:cap(p)]
	for i := range p {
		p[i] = 0xee
	}
}

// right checks a context that has bytes, and that Parse takes them back.
func right(t *testing.T, name string, c context.Context, want []byte) {
	t.Helper()
	if !c.Right() {
		t.Errorf("%s: not Right", name)
	}
	if got := c.Bytes(); !bytes.Equal(got, want) {
		t.Errorf("%s: Bytes = %x, want %x", name, got, want)
	}
	before := bytes.Clone(want)
	if got, err := context.Parse(want); err != api.OK || got != c {
		t.Errorf("%s: Parse = %v, %d, want %v", name, got, err, c)
	}
	if !bytes.Equal(want, before) {
		t.Errorf("%s: Parse changed its argument", name)
	}
}

// wrong checks a context that is not Right, and so has no bytes.
func wrong(t *testing.T, name string, c context.Context) {
	t.Helper()
	if c.Right() {
		t.Errorf("%s: Right", name)
	}
	if got := c.Bytes(); len(got) != 0 {
		t.Errorf("%s: Bytes = %x, want none", name, got)
	}
}

// refused checks bytes that are of no context.
func refused(t *testing.T, name string, p []byte) {
	t.Helper()
	if got, err := context.Parse(p); err != api.ErrForm || got != (context.Context{}) {
		t.Errorf("%s: Parse(%x) = %v, %d, want a zero value, ErrForm", name, p, got, err)
	}
}

func TestDefault(t *testing.T) {
	want := context.Context{Chain: [6]int8{-1, -1, -1, -1, -1, -1}}
	if got := context.Default(); got != want {
		t.Errorf("Default = %v", got)
	}
	right(t, "Default", context.Default(), make([]byte, 21))
	right(t, "zero", context.Context{}, []byte{0, 0, 0, 0, 0, 0, 0, 0, 0, 0, 1, 1, 1, 1, 1, 1, 0, 0, 0, 0, 0})
}

func TestBytes(t *testing.T) {
	right(t, "ordinary", ordinary(), ordinaryBytes())
	full := context.Context{
		Failed: 0xffff, Inhibited: 0xffff, Retry: [6]uint8{255, 255, 255, 255, 255, 255}, Chain: [6]int8{15, 15, 15, 15, 15, 15},
		Mode: 3, Resets: 65535, Exhausted: true, Inhibit: 31,
	}
	right(t, "all at the upper end", full, []byte("\xff\xff\xff\xff\xff\xff\xff\xff\xff\xff\x10\x10\x10\x10\x10\x10\x03\xff\xff\x01\x1f"))
}

// TestSets: each unit of the two sets has a bit of its own.
func TestSets(t *testing.T) {
	for unit := range 16 {
		c := context.Default()
		c.Failed = bits.Of(unit)
		want := make([]byte, 21)
		want[1-unit/8] = 1 << (unit % 8)
		right(t, "Failed", c, want)
		c = context.Default()
		c.Inhibited = bits.Of(unit)
		want = make([]byte, 21)
		want[3-unit/8] = 1 << (unit % 8)
		right(t, "Inhibited", c, want)
	}
}

// TestRanges: each value that a field's type has, alone in a right context.
func TestRanges(t *testing.T) {
	judge := func(name string, c context.Context, within bool) {
		t.Helper()
		if !within {
			wrong(t, name, c)
			return
		}
		right(t, name, c, laid(c))
	}
	for _, base := range []context.Context{context.Default(), ordinary()} {
		for v := range 256 {
			for role := range 6 {
				c := base
				c.Retry[role] = uint8(v)
				judge("Retry", c, true)
				c = base
				c.Chain[role] = int8(v - 128)
				judge("Chain", c, v-128 >= -1 && v-128 <= 15)
			}
			c := base
			c.Mode = uint8(v)
			judge("Mode", c, v <= 3)
			c = base
			c.Inhibit = uint8(v)
			judge("Inhibit", c, v <= 31)
		}
		for v := 0; v <= 65535; v += 51 {
			c := base
			c.Resets, c.Failed, c.Inhibited = uint16(v), bits.Set(65535-v), bits.Set(v^0x5555)
			judge("Resets", c, true)
		}
	}
}

// TestParseEachByte: each byte with each value, in two right contexts.
func TestParseEachByte(t *testing.T) {
	most := func(at int) int { // the greatest value of that byte
		switch {
		case at >= 10 && at < 16:
			return 16
		case at == 16:
			return 3
		case at == 19:
			return 1
		case at == 20:
			return 31
		}
		return 255
	}
	for _, base := range [][]byte{make([]byte, 21), ordinaryBytes()} {
		for at := range 21 {
			for v := range 256 {
				p := bytes.Clone(base)
				p[at] = byte(v)
				if v > most(at) {
					refused(t, "a byte above its range", p)
					continue
				}
				c, err := context.Parse(p)
				if err != api.OK || !bytes.Equal(laid(c), p) || !bytes.Equal(c.Bytes(), p) {
					t.Errorf("Parse(%x) = %v, %d", p, c, err)
				}
			}
		}
	}
	if c, err := context.Parse(ordinaryBytes()); err != api.OK || c != ordinary() {
		t.Errorf("ordinary: %v, %d", c, err)
	}
}

func TestParseSizes(t *testing.T) {
	refused(t, "nil", nil)
	for n := range 64 {
		if n != 21 {
			refused(t, "zeros", make([]byte, n))
			refused(t, "ordinary, cut or lengthened", append(ordinaryBytes(), make([]byte, 64)...)[:n])
		}
	}
	refused(t, "twice", append(ordinaryBytes(), ordinaryBytes()...))
	refused(t, "very long", make([]byte, 65536+21))
}

func TestMemory(t *testing.T) {
	one, two := ordinary().Bytes(), ordinary().Bytes()
	overwrite(one)
	if !bytes.Equal(two, ordinaryBytes()) {
		t.Errorf("two results share memory: %x", two)
	}
	p := append(ordinaryBytes(), "spare"...)
	before := bytes.Clone(p)
	c, _ := context.Parse(p[:21])
	if !bytes.Equal(p, before) {
		t.Errorf("Parse changed its argument: %x", p)
	}
	overwrite(p)
	if c != ordinary() {
		t.Errorf("Parse kept its argument: %v", c)
	}
}

// others are contexts that differ from the ordinary one in a field, or in one
// element of it, each.
func others() []context.Context {
	var l []context.Context
	add := func(change func(c *context.Context)) {
		c := ordinary()
		change(&c)
		l = append(l, c)
	}
	for i := range 16 {
		add(func(c *context.Context) { c.Failed ^= 1 << i })
		add(func(c *context.Context) { c.Inhibited ^= 1 << i })
		add(func(c *context.Context) { c.Resets ^= 1 << i })
	}
	for i := range 8 {
		add(func(c *context.Context) { c.Mode ^= 1 << i })
		add(func(c *context.Context) { c.Inhibit ^= 1 << i })
	}
	for role := range 6 {
		add(func(c *context.Context) { c.Retry[role]++ })
		add(func(c *context.Context) { c.Chain[role]-- })
		add(func(c *context.Context) { c.Chain[role] += 100 })
	}
	add(func(c *context.Context) { c.Exhausted = false })
	add(func(c *context.Context) { *c = context.Default() })
	return l
}

func TestSame(t *testing.T) {
	if !context.Same(ordinary(), ordinary()) || !context.Same(context.Default(), context.Default()) {
		t.Error("a context is not the same as itself")
	}
	l := others()
	for i, a := range l {
		if context.Same(a, ordinary()) || context.Same(ordinary(), a) {
			t.Errorf("Same(%v, ordinary)", a)
		}
		for j, b := range l {
			if got := context.Same(a, b); got != (i == j) {
				t.Errorf("Same(%v, %v) = %t", a, b, got)
			}
		}
	}
}

func TestReset(t *testing.T) {
	for _, x := range []struct{ before, after uint16 }{{0, 1}, {1, 2}, {255, 256}, {32767, 32768}, {65533, 65534}, {65534, 65535}, {65535, 65535}} {
		for _, mode := range []uint8{0, 1, 2, 3, 4, 255} {
			c := ordinary()
			c.Resets, c.Mode = x.before, mode
			before, want := c, ordinary()
			want.Resets, want.Mode = x.after, 0
			if got := c.Reset(); got != want {
				t.Errorf("%d resets, mode %d: %v, want %v", x.before, mode, got, want)
			}
			if c != before {
				t.Errorf("Reset changed the context: %v", c)
			}
		}
	}
	// What is not Right is taken as any.
	c := context.Context{Chain: [6]int8{-128, 127, 99, -2, 16, 0}, Inhibit: 255, Mode: 9}
	want := c
	want.Mode, want.Resets = 0, 1
	if got := c.Reset(); got != want {
		t.Errorf("not Right: %v", got)
	}
}

func TestFailClearHold(t *testing.T) {
	const old = bits.Set(0x8102)
	for _, x := range []struct {
		l             []int
		with, without bits.Set
	}{
		{nil, old, old}, {[]int{}, old, old}, {[]int{0}, 0x8103, old}, {[]int{15}, old, 0x0102}, {[]int{1}, old, 0x8100}, {[]int{3, 8}, 0x810a, 0x8002},
		{[]int{4, 4}, 0x8112, old}, {[]int{1, 1}, old, 0x8100}, {[]int{-1, 16, 17, 255, 256, 264, -16, math.MaxInt, math.MinInt}, old, old},
		{[]int{-1, 2, 99, 8}, 0x8106, 0x8002}, {[]int{0, 1, 2, 3, 4, 5, 6, 7, 8, 9, 10, 11, 12, 13, 14, 15}, 0xffff, 0}, {[]int{15, 14, 1, 15}, 0xc102, 0x0100},
	} {
		before := append([]int(nil), x.l...)
		c := ordinary()
		c.Failed, c.Inhibited = old, 0x0f0f
		want := c
		want.Failed = x.with
		same(t, "Fail", c.Fail(x.l...), want)
		want.Failed = x.without
		same(t, "Clear", c.Clear(x.l...), want)

		c.Failed, c.Inhibited = 0x0f0f, old
		want = c
		want.Inhibited = x.with
		same(t, "Hold on", c.Hold(true, x.l...), want)
		want.Inhibited = x.without
		same(t, "Hold off", c.Hold(false, x.l...), want)
		want.Inhibited = old
		same(t, "the context itself", c, want)
		for i, unit := range before {
			if x.l[i] != unit {
				t.Errorf("the argument was changed: %v", x.l)
			}
		}
	}
}

// same checks a context.
func same(t *testing.T, name string, got, want context.Context) {
	t.Helper()
	if got != want {
		t.Errorf("%s: %v, want %v", name, got, want)
	}
}

func TestAgain(t *testing.T) {
	for _, x := range []struct {
		before uint8
		most   int
		ok     bool
	}{
		{0, 0, false}, {0, -1, false}, {0, math.MinInt, false}, {0, 1, true}, {0, 2, true}, {0, math.MaxInt, true},
		{1, 0, false}, {1, 1, false}, {1, 2, true}, {2, 3, true}, {3, 3, false}, {4, 3, false}, {100, 3, false},
		{253, 254, true}, {254, 254, false}, {254, 255, true}, {254, 256, true}, {254, math.MaxInt, true}, {255, 255, false}, {255, 256, false}, {255, 1000, false}, {255, math.MaxInt, false}, {255, 0, false},
		{0, 256, true}, {0, -256, false}, {5, 256 + 3, true}, {5, 1 << 32, true},
	} {
		for role := range 6 {
			c := ordinary()
			c.Retry[role] = x.before
			before, want := c, c
			if x.ok {
				want.Retry[role]++
			}
			got, ok := c.Again(role, x.most)
			same(t, "Again", got, want)
			same(t, "the context itself", c, before)
			if ok != x.ok {
				t.Errorf("Again of %d, at most %d: %t", x.before, x.most, ok)
			}
		}
	}
	for _, role := range []int{-1, -6, math.MinInt, 6, 7, 256, math.MaxInt} {
		for _, most := range []int{-1, 0, 1, 255, math.MaxInt} {
			got, ok := ordinary().Again(role, most)
			same(t, "no such role", got, ordinary())
			if ok {
				t.Errorf("Again of role %d: true", role)
			}
		}
	}
	// From none up to the limit, and no further.
	c, n := context.Default(), 0
	for range 300 {
		var ok bool
		if c, ok = c.Again(2, 1000); ok {
			n++
		}
	}
	want := context.Default()
	want.Retry[2] = 255
	same(t, "300 times", c, want)
	if n != 255 {
		t.Errorf("300 times: %d true", n)
	}
}

// stored is a memory in which this was written.
func stored(t *testing.T, p []byte) *guard.Memory {
	t.Helper()
	m := guard.New()
	if err := m.Fill(p); err != api.OK {
		t.Fatal("Fill:", err)
	}
	return m
}

// made is a cell.
func made(t *testing.T, seq uint32, p []byte) []byte {
	t.Helper()
	c, err := cell.Make(seq, p)
	if err != api.OK {
		t.Fatal("Make:", err)
	}
	return c
}

// holds checks the bytes of the three copies.
func holds(t *testing.T, name string, m *guard.Memory, want ...[]byte) {
	t.Helper()
	got := m.Copies()
	if len(got) != len(want) {
		t.Fatalf("%s: %d copies", name, len(got))
	}
	for i := range want {
		if !bytes.Equal(got[i], want[i]) {
			t.Errorf("%s: copy %d is %x, want %x", name, i, got[i], want[i])
		}
	}
}

// reads checks Read, and that it leaves the memory as it is.
func reads(t *testing.T, name string, m *guard.Memory, want context.Context, ok bool) {
	t.Helper()
	before, pending := m.Copies(), m.Pending()
	got, gotOK := context.Read(m)
	if got != want || gotOK != ok {
		t.Errorf("%s: Read = %v, %t, want %v, %t", name, got, gotOK, want, ok)
	}
	holds(t, name, m, before...)
	if m.Pending() != pending {
		t.Errorf("%s: Read cancelled the pending write", name)
	}
}

// boots checks Boot: its context, and that the memory's copies all are the
// cell of that context, with this number.
func boots(t *testing.T, name string, m *guard.Memory, want context.Context, ok bool, seq uint32) {
	t.Helper()
	got, gotOK := context.Boot(m)
	if got != want || gotOK != ok {
		t.Errorf("%s: Boot = %v, %t, want %v, %t", name, got, gotOK, want, ok)
	}
	if m.Pending() {
		t.Errorf("%s: booted, and a write is pending", name)
	}
	c := made(t, seq, laid(want))
	holds(t, name, m, c, c, c)
	reads(t, name+", then", m, want, true)
}

// after is the context after one more reset.
func after(c context.Context) context.Context {
	c.Resets++
	c.Mode = 0
	return c
}

func TestOfNilMemory(t *testing.T) {
	if c, ok := context.Read(nil); c != context.Default() || ok {
		t.Errorf("Read(nil) = %v, %t", c, ok)
	}
	if c, ok := context.Boot(nil); c != after(context.Default()) || ok {
		t.Errorf("Boot(nil) = %v, %t", c, ok)
	}
}

func TestOfEmptyMemory(t *testing.T) {
	m := guard.New()
	reads(t, "empty", m, context.Default(), false)
	boots(t, "empty", m, after(context.Default()), false, 1)
	boots(t, "empty before", m, after(after(context.Default())), true, 2)
}

func TestReadAndBoot(t *testing.T) {
	m := stored(t, ordinaryBytes())
	reads(t, "ordinary", m, ordinary(), true)
	want := after(ordinary())
	boots(t, "ordinary", m, want, true, 2)
	want = after(want)
	boots(t, "ordinary, twice", m, want, true, 3)
	full := ordinary()
	full.Resets = 65534
	m = stored(t, laid(full))
	full = after(full)
	boots(t, "65534 resets", m, full, true, 2)
	boots(t, "65535 resets", m, full, true, 3)
	reads(t, "a Default", stored(t, make([]byte, 21)), context.Default(), true)
}

// TestPendingWrite: what was being written counts, and the write is cancelled.
func TestPendingWrite(t *testing.T) {
	begun := func() *guard.Memory {
		m := stored(t, laid(context.Default()))
		if err := m.Begin(ordinaryBytes()); err != api.OK {
			t.Fatal("Begin:", err)
		}
		return m
	}
	m := begun()
	reads(t, "pending", m, ordinary(), true)
	boots(t, "pending", m, after(ordinary()), true, 3)
	if err := m.Finish(); err != api.ErrState {
		t.Errorf("Finish after Boot: %d", err)
	}
	// Copy 0 spoilt: what was written before counts.
	m = begun()
	m.Flip(0, 0, 1)
	reads(t, "pending, copy 0 spoilt", m, context.Default(), true)
	boots(t, "pending, copy 0 spoilt", m, after(context.Default()), true, 2)
}

func TestSpoiltCopies(t *testing.T) {
	for one := range 3 {
		m := stored(t, ordinaryBytes())
		m.Flip(one, 6, 0x80)
		reads(t, "one spoilt", m, ordinary(), true)
		boots(t, "one spoilt", m, after(ordinary()), true, 2)
		for other := range one {
			m := stored(t, ordinaryBytes())
			m.Flip(one, 6, 0x80)
			m.Flip(other, 7, 0x80)
			reads(t, "two spoilt", m, context.Default(), false)
			boots(t, "two spoilt", m, after(context.Default()), false, 2)
		}
	}
	m := stored(t, ordinaryBytes())
	for i := range 3 {
		m.Flip(i, 0, 1)
	}
	reads(t, "all spoilt", m, context.Default(), false)
	boots(t, "all spoilt", m, after(context.Default()), false, 1)
}

// TestNoContext: a memory that is in order, with bytes that are no context's.
func TestNoContext(t *testing.T) {
	above := ordinaryBytes()
	above[16] = 4
	for _, p := range [][]byte{nil, []byte("text"), make([]byte, 20), make([]byte, 22), make([]byte, 200), above, bytes.Repeat([]byte{255}, 21)} {
		m := stored(t, p)
		reads(t, "no context", m, context.Default(), false)
		boots(t, "no context", m, after(context.Default()), false, 2)
	}
	// It is not looked for in the copies with lower numbers.
	m := guard.Of(made(t, 9, []byte("text")), made(t, 5, ordinaryBytes()), made(t, 5, ordinaryBytes()))
	reads(t, "no context voted", m, context.Default(), false)
	boots(t, "no context voted", m, after(context.Default()), false, 10)
}

// TestLastNumber: the memory can't be written any more; the boot is done all
// the same.
func TestLastNumber(t *testing.T) {
	whole := made(t, last, ordinaryBytes())
	m := guard.Of(whole, whole, whole)
	for range 2 {
		if c, ok := context.Boot(m); c != after(ordinary()) || !ok {
			t.Errorf("at the last number: %v, %t", c, ok)
		}
		holds(t, "at the last number", m, whole, whole, whole)
	}
	below := made(t, last-1, ordinaryBytes())
	m = guard.Of(below, below, below)
	if err := m.Begin(make([]byte, 21)); err != api.OK {
		t.Fatal("Begin:", err)
	}
	if c, ok := context.Boot(m); c != after(context.Default()) || !ok || m.Pending() {
		t.Errorf("pending at the last number: %v, %t, pending %t", c, ok, m.Pending())
	}
	holds(t, "pending at the last number", m, made(t, last, make([]byte, 21)), below, below)
	m = guard.Of(nil, nil, whole)
	if c, ok := context.Boot(m); c != after(context.Default()) || ok {
		t.Errorf("one copy, at the last number: %v, %t", c, ok)
	}
	holds(t, "one copy, at the last number", m, nil, nil, whole)
	boots(t, "one below the last number", guard.Of(below, below, below), after(ordinary()), true, last)
}

// TestValues: operations on one context show in no other.
func TestValues(t *testing.T) {
	c := ordinary()
	d := c.Fail(0).Clear(1).Hold(true, 0).Hold(false, 2).Reset()
	d, _ = d.Again(0, 9)
	d.Chain[0] = 5
	same(t, "the first", c, ordinary())
	m := stored(t, ordinaryBytes())
	e, _ := context.Boot(m)
	kept := e
	m.Flip(0, 6, 0xff)
	m.Fill(nil)
	same(t, "what Boot gave", e, kept)
}
