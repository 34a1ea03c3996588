package fdir_test

import (
	"math"
	"slices"
	"testing"

	"aerie/api"
	"aerie/fdir"
)

// alarm is of this level, unit and event.
func alarm(level uint8, unit int, event uint8) fdir.Alarm {
	return fdir.Alarm{Level: level, Unit: unit, Event: event}
}

// noLevels are numbers of levels that there aren't.
var noLevels = []uint8{5, 6, 7, 8, 9, 12, 16, 31, 127, 128, 132, 254, 255}

// noUnits are numbers that are neither a unit nor -1.
var noUnits = []int{math.MinInt, math.MinInt + 1, -1 << 32, -256, -17, -3, -2, 16, 17, 18, 255, 256, 1 << 16, 1 << 32, 1<<32 + 3, math.MaxInt - 1, math.MaxInt}

// wrong are alarms that aren't Right.
func wrong() []fdir.Alarm {
	var l []fdir.Alarm
	for i, level := range noLevels {
		l = append(l, alarm(level, i%17-1, uint8(i)))
	}
	for i, unit := range noUnits {
		l = append(l, alarm(uint8(i%5), unit, uint8(i)))
	}
	return append(l, alarm(5, 16, 1), alarm(255, -2, 2), alarm(9, math.MaxInt, 255))
}

// isRight tells, by the chapter's words, whether an alarm is Right.
func isRight(a fdir.Alarm) bool {
	return slices.Contains([]uint8{0, 1, 2, 3, 4}, a.Level) && a.Unit > -2 && a.Unit < 16
}

// isAllowed tells, by the chapter's words, whether a level is Allowed.
func isAllowed(inhibit, level uint8) bool {
	for i, bit := range []uint8{1, 2, 4, 8, 16} {
		if level == uint8(i) {
			return inhibit&bit == 0
		}
	}
	return false
}

// TestExample: the chapter's.
func TestExample(t *testing.T) {
	f := fdir.Ladder{Limits: [5]uint8{1, 1, 1, 1, 1}}
	for _, want := range []uint8{0, 1} {
		var a fdir.Alarm
		var ok bool
		f, a, ok = f.Raise(alarm(0, 3, 7), 0)
		if a != alarm(want, 3, 7) || !ok {
			t.Errorf("got %v, %t, want level %d", a, ok, want)
		}
	}
}

// TestTypes: the fields, and their sizes, are the chapter's.
func TestTypes(t *testing.T) {
	var a struct {
		Level uint8
		Unit  int
		Event uint8
	}
	var f struct {
		Limits [5]uint8
		Counts [5]uint8
	}
	if fdir.Alarm(a) != (fdir.Alarm{}) || fdir.Ladder(f) != (fdir.Ladder{}) {
		t.Error("fields")
	}
}

func TestRight(t *testing.T) {
	units := slices.Concat(noUnits, []int{-1, 0, 1, 7, 14, 15})
	for _, event := range []uint8{0, 1, 255} {
		for level := range 256 {
			for _, unit := range units {
				a := alarm(uint8(level), unit, event)
				if got := a.Right(); got != isRight(a) {
					t.Errorf("%v.Right() = %t", a, got)
				}
			}
		}
	}
	for _, x := range []struct {
		a    fdir.Alarm
		want bool
	}{
		{alarm(0, -1, 0), true}, {alarm(4, -1, 9), true}, {alarm(4, 15, 255), true}, {alarm(0, 0, 0), true},
		{alarm(5, -1, 0), false}, {alarm(5, 0, 0), false}, {alarm(255, 3, 0), false},
		{alarm(0, -2, 0), false}, {alarm(0, 16, 0), false}, {alarm(4, api.MaxUnits, 0), false}, {alarm(4, api.MaxUnits-1, 0), true},
	} {
		if got := x.a.Right(); got != x.want {
			t.Errorf("%v.Right() = %t", x.a, got)
		}
	}
	for _, a := range wrong() {
		if a.Right() {
			t.Errorf("%v.Right()", a)
		}
	}
}

func TestName(t *testing.T) {
	names := []string{"unit", "function", "system", "watchdog", "alarm"}
	for level := range 256 {
		want := ""
		if level < 5 {
			want = names[level]
		}
		if got := fdir.Name(uint8(level)); got != want {
			t.Errorf("Name(%d) = %q, want %q", level, got, want)
		}
	}
	if fdir.Name(api.Unit) != "unit" || fdir.Name(api.Function) != "function" || fdir.Name(api.System) != "system" || fdir.Name(api.Watchdog) != "watchdog" || fdir.Name(api.Alarm) != "alarm" {
		t.Error("the names of api's levels")
	}
}

func TestAllowed(t *testing.T) {
	for inhibit := range 256 {
		for level := range 256 {
			want := isAllowed(uint8(inhibit), uint8(level))
			if got := fdir.Allowed(uint8(inhibit), uint8(level)); got != want {
				t.Errorf("Allowed(%08b, %d) = %t", inhibit, level, got)
			}
		}
	}
	for level, own := range []uint8{1, 2, 4, 8, 16} {
		level := uint8(level)
		if !fdir.Allowed(0, level) || fdir.Allowed(own, level) || !fdir.Allowed(255-own, level) || fdir.Allowed(255, level) || !fdir.Allowed(0b11100000, level) || fdir.Allowed(0b11100000|own, level) {
			t.Errorf("Allowed of level %d", level)
		}
	}
	for _, level := range noLevels {
		if fdir.Allowed(0, level) || fdir.Allowed(255, level) {
			t.Errorf("level %d is allowed", level)
		}
	}
}

// picks checks a Pick, and that it leaves its list as it was.
func picks(t *testing.T, inhibit uint8, l []fdir.Alarm, want fdir.Alarm, found bool) {
	t.Helper()
	before := slices.Clone(l)
	if got, ok := fdir.Pick(inhibit, l...); got != want || ok != found {
		t.Errorf("Pick(%05b, %v) = %v, %t, want %v, %t", inhibit, before, got, ok, want, found)
	}
	if !slices.Equal(l, before) {
		t.Errorf("Pick changed %v to %v", before, l)
	}
}

// orders checks an Order, and that it leaves its list as it was.
func orders(t *testing.T, l []fdir.Alarm, want []fdir.Alarm) {
	t.Helper()
	before := slices.Clone(l)
	if got := fdir.Order(l...); !slices.Equal(got, want) {
		t.Errorf("Order(%v) = %v, want %v", before, got, want)
	}
	if !slices.Equal(l, before) {
		t.Errorf("Order changed %v to %v", before, l)
	}
}

func TestPick(t *testing.T) {
	low, mid, mid2, top := alarm(0, 3, 1), alarm(2, -1, 2), alarm(2, 15, 3), alarm(4, 0, 4)
	none := fdir.Alarm{}
	noLevel, noUnit := alarm(5, 0, 9), alarm(4, 16, 9)
	for _, x := range []struct {
		inhibit uint8
		l       []fdir.Alarm
		want    fdir.Alarm
		found   bool
	}{
		{0, nil, none, false}, {0, []fdir.Alarm{}, none, false}, {255, nil, none, false},
		{0, []fdir.Alarm{low}, low, true}, {0, []fdir.Alarm{top}, top, true},
		{0, []fdir.Alarm{low, mid, top}, top, true}, {0, []fdir.Alarm{top, mid, low}, top, true}, {0, []fdir.Alarm{mid, top, low}, top, true},
		// Of two of the greatest level the first.
		{0, []fdir.Alarm{mid, mid2}, mid, true}, {0, []fdir.Alarm{mid2, mid}, mid2, true},
		{0, []fdir.Alarm{low, mid2, low, mid, low}, mid2, true}, {0, []fdir.Alarm{mid, mid, mid2}, mid, true},
		// Inhibited.
		{1 << 4, []fdir.Alarm{top, low, mid, mid2}, mid, true}, {1 << 4, []fdir.Alarm{low, mid2, mid, top}, mid2, true},
		{1<<4 | 1<<2, []fdir.Alarm{mid, low, top}, low, true}, {1 << 2, []fdir.Alarm{mid, low}, low, true},
		{1, []fdir.Alarm{low}, none, false}, {0b10101, []fdir.Alarm{low, mid, mid2, top}, none, false}, {31, []fdir.Alarm{low, mid, top}, none, false}, {255, []fdir.Alarm{low, mid, top}, none, false},
		{0b01010, []fdir.Alarm{low, mid, top}, top, true}, {0b11101010, []fdir.Alarm{low, mid, top}, top, true},
		// Not Right: ahead of, between and behind right ones, and alone.
		{0, []fdir.Alarm{noLevel, low, mid}, mid, true}, {0, []fdir.Alarm{low, noUnit, mid}, mid, true}, {0, []fdir.Alarm{low, mid, noUnit}, mid, true},
		{0, []fdir.Alarm{noUnit, mid, noLevel, mid2, noUnit}, mid, true},
		{0, []fdir.Alarm{noLevel}, none, false}, {0, []fdir.Alarm{noUnit, noLevel}, none, false}, {0, wrong(), none, false}, {255, wrong(), none, false},
	} {
		picks(t, x.inhibit, x.l, x.want, x.found)
	}
}

func TestOrder(t *testing.T) {
	a0, b0, a1, a2, b2, c2, a3, a4, b4 := alarm(0, 0, 1), alarm(0, 0, 2), alarm(1, -1, 1), alarm(2, 15, 3), alarm(2, 2, 2), alarm(2, 7, 1), alarm(3, 4, 0), alarm(4, -1, 0), alarm(4, -1, 255)
	noLevel, noUnit, belowUnit := alarm(5, 0, 9), alarm(4, 16, 9), alarm(4, -2, 9)
	for _, x := range []struct{ l, want []fdir.Alarm }{
		{nil, nil}, {[]fdir.Alarm{}, nil},
		{[]fdir.Alarm{a0}, []fdir.Alarm{a0}}, {[]fdir.Alarm{a4}, []fdir.Alarm{a4}},
		{[]fdir.Alarm{a0, a4}, []fdir.Alarm{a4, a0}}, {[]fdir.Alarm{a4, a0}, []fdir.Alarm{a4, a0}},
		{[]fdir.Alarm{a0, a1, a2, a3, a4}, []fdir.Alarm{a4, a3, a2, a1, a0}}, {[]fdir.Alarm{a2, a4, a0, a3, a1}, []fdir.Alarm{a4, a3, a2, a1, a0}},
		// Of one level: in their original order, whatever unit and event they are of.
		{[]fdir.Alarm{a2, b2, c2}, []fdir.Alarm{a2, b2, c2}}, {[]fdir.Alarm{c2, b2, a2}, []fdir.Alarm{c2, b2, a2}}, {[]fdir.Alarm{b2, a2, a2, c2, a2}, []fdir.Alarm{b2, a2, a2, c2, a2}},
		{[]fdir.Alarm{b0, b2, b4, a0, a2, a4, b0, c2}, []fdir.Alarm{b4, a4, b2, a2, c2, b0, a0, b0}},
		// Not Right: left out.
		{[]fdir.Alarm{noLevel, a1, noUnit, a3, belowUnit}, []fdir.Alarm{a3, a1}}, {[]fdir.Alarm{noLevel}, nil}, {wrong(), nil},
		{[]fdir.Alarm{a0, noUnit, noUnit, b0}, []fdir.Alarm{a0, b0}},
	} {
		orders(t, x.l, x.want)
	}
}

// plainOrder goes through the list once for each level.
func plainOrder(l []fdir.Alarm) []fdir.Alarm {
	var out []fdir.Alarm
	for level := 4; level >= 0; level-- {
		for _, a := range l {
			if isRight(a) && int(a.Level) == level {
				out = append(out, a)
			}
		}
	}
	return out
}

// plainPick keeps the greatest that was seen so far.
func plainPick(inhibit uint8, l []fdir.Alarm) (best fdir.Alarm, found bool) {
	for _, a := range l {
		if isRight(a) && isAllowed(inhibit, a.Level) && (!found || a.Level > best.Level) {
			best, found = a, true
		}
	}
	return best, found
}

// draws gives numbers below n, the same ones in each run.
func draws(seed uint32) func(n int) int {
	return func(n int) int {
		seed = seed*1664525 + 1013904223
		return int(seed>>8) % n
	}
}

// TestListsAgainstPlain: lists of many lengths, also of more alarms than a sort
// that isn't stable would keep in order.
func TestListsAgainstPlain(t *testing.T) {
	draw := draws(22)
	bad := wrong()
	for n := range 4000 {
		size := draw(9)
		if n%50 == 0 {
			size = 20 + draw(300)
		}
		var l []fdir.Alarm
		for i := range size {
			if draw(5) == 0 {
				l = append(l, bad[draw(len(bad))])
			} else {
				l = append(l, alarm(uint8(draw(5)), draw(17)-1, uint8(i)))
			}
		}
		orders(t, l, plainOrder(l))
		for range 8 {
			inhibit := uint8(draw(256))
			want, found := plainPick(inhibit, l)
			picks(t, inhibit, l, want, found)
		}
		if t.Failed() {
			t.FailNow()
		}
	}
}

// TestMemory: what the lists have to spare stays as it is, and what Order
// returns is the caller's.
func TestMemory(t *testing.T) {
	list := []fdir.Alarm{alarm(0, 1, 1), alarm(9, 1, 2), alarm(4, 1, 3), alarm(2, 1, 4), alarm(3, 77, 5), alarm(1, 1, 6)}
	before := slices.Clone(list)
	want := []fdir.Alarm{alarm(4, 1, 3), alarm(0, 1, 1)}
	for range 2 {
		got, other := fdir.Order(list[:3]...), fdir.Order(list[:3]...)
		fdir.Pick(0, list[:3]...)
		if !slices.Equal(got, want) || !slices.Equal(list, before) {
			t.Error("Order", got, list)
		}
		got = got[:cap(got)]
		for i := range got {
			got[i] = alarm(77, 77, 77)
		}
		if !slices.Equal(other, want) || !slices.Equal(list, before) {
			t.Error("shared", other, list)
		}
	}
	// In order already, and all of it Right: still a list of its own.
	ready := []fdir.Alarm{alarm(4, 1, 1), alarm(3, 1, 2)}
	fdir.Order(ready...)[0].Unit = 9
	if ready[0] != alarm(4, 1, 1) {
		t.Error("the list was handed back")
	}
}

// ladder is one with these limits and counts.
func ladder(limits, counts [5]uint8) fdir.Ladder {
	return fdir.Ladder{Limits: limits, Counts: counts}
}

// raises checks a Raise after which this level has acted, and its count is
// this; it returns the ladder behind it.
func raises(t *testing.T, f fdir.Ladder, a fdir.Alarm, inhibit, level, count uint8) fdir.Ladder {
	t.Helper()
	before, want := f, f
	want.Counts[level] = count
	acts := alarm(level, a.Unit, a.Event)
	got, gotAlarm, ok := f.Raise(a, inhibit)
	if got != want || gotAlarm != acts || !ok {
		t.Errorf("%v.Raise(%v, %08b) = %v, %v, %t, want %v, %v", f, a, inhibit, got, gotAlarm, ok, want, acts)
	}
	if f != before {
		t.Errorf("Raise changed %v to %v", before, f)
	}
	return got
}

// refuses checks a Raise after which no level has acted.
func refuses(t *testing.T, f fdir.Ladder, a fdir.Alarm, inhibit uint8) {
	t.Helper()
	if got, acts, ok := f.Raise(a, inhibit); got != f || acts != (fdir.Alarm{}) || ok {
		t.Errorf("%v.Raise(%v, %08b) = %v, %v, %t, want false", f, a, inhibit, got, acts, ok)
	}
}

// TestRaise: at the alarm's own level, and at those above it.
func TestRaise(t *testing.T) {
	for _, x := range []struct {
		limits, counts [5]uint8
		from, inhibit  uint8
		level, count   uint8
	}{
		// With room at its own level.
		{[5]uint8{2, 2, 2, 2, 2}, [5]uint8{}, 0, 0, 0, 1}, {[5]uint8{2, 2, 2, 2, 2}, [5]uint8{1, 9, 9, 9, 9}, 0, 0, 0, 2},
		{[5]uint8{2, 2, 2, 2, 2}, [5]uint8{}, 3, 0, 3, 1}, {[5]uint8{0, 0, 0, 0, 1}, [5]uint8{}, 4, 0, 4, 1},
		// Room below it doesn't count.
		{[5]uint8{9, 9, 1, 9, 9}, [5]uint8{0, 0, 0, 0, 0}, 2, 0, 2, 1}, {[5]uint8{9, 9, 1, 9, 9}, [5]uint8{0, 0, 1, 0, 0}, 2, 0, 3, 1},
		// At its limit: the next.
		{[5]uint8{2, 2, 2, 2, 2}, [5]uint8{2, 0, 0, 0, 0}, 0, 0, 1, 1}, {[5]uint8{2, 2, 2, 2, 2}, [5]uint8{2, 1, 0, 0, 0}, 0, 0, 1, 2},
		{[5]uint8{2, 2, 2, 2, 2}, [5]uint8{2, 2, 1, 0, 0}, 0, 0, 2, 2}, {[5]uint8{0, 0, 0, 1, 1}, [5]uint8{}, 0, 0, 3, 1},
		// Above its limit: so, too.
		{[5]uint8{2, 2, 2, 2, 2}, [5]uint8{3, 0, 0, 0, 0}, 0, 0, 1, 1}, {[5]uint8{2, 2, 2, 2, 2}, [5]uint8{255, 255, 0, 0, 0}, 0, 0, 2, 1},
		// Inhibited on the way, at the limit on the way, both.
		{[5]uint8{2, 2, 2, 2, 2}, [5]uint8{}, 0, 0b00001, 1, 1}, {[5]uint8{2, 2, 2, 2, 2}, [5]uint8{}, 0, 0b00111, 3, 1},
		{[5]uint8{2, 2, 2, 2, 2}, [5]uint8{2, 0, 2, 0, 0}, 0, 0b00010, 3, 1}, {[5]uint8{2, 2, 2, 2, 2}, [5]uint8{2, 2, 0, 2, 0}, 0, 0b00100, 4, 1},
		{[5]uint8{2, 2, 2, 2, 2}, [5]uint8{0, 2, 0, 0, 0}, 1, 0b01100, 4, 1}, {[5]uint8{2, 2, 2, 2, 2}, [5]uint8{}, 0, 0b11101111, 4, 1},
		// Inhibited, but not on the way.
		{[5]uint8{2, 2, 2, 2, 2}, [5]uint8{}, 2, 0b11011, 2, 1}, {[5]uint8{2, 2, 2, 2, 2}, [5]uint8{}, 0, 0b11111110, 0, 1}, {[5]uint8{2, 2, 2, 2, 2}, [5]uint8{}, 0, 0b11100000, 0, 1},
		// No room: the greatest that is allowed acts, and is counted.
		{[5]uint8{2, 2, 2, 2, 2}, [5]uint8{2, 2, 2, 2, 2}, 0, 0, 4, 3}, {[5]uint8{2, 2, 2, 2, 2}, [5]uint8{2, 2, 2, 2, 2}, 4, 0, 4, 3},
		{[5]uint8{2, 2, 2, 2, 2}, [5]uint8{2, 2, 2, 2, 0}, 0, 0b10000, 3, 3}, {[5]uint8{2, 2, 2, 2, 2}, [5]uint8{2, 2, 2, 0, 0}, 0, 0b11000, 2, 3},
		{[5]uint8{2, 2, 2, 2, 2}, [5]uint8{2, 0, 0, 0, 0}, 0, 0b11110, 0, 3}, {[5]uint8{2, 2, 2, 2, 2}, [5]uint8{0, 2, 2, 0, 0}, 1, 0b11000, 2, 3},
		{[5]uint8{2, 2, 2, 2, 2}, [5]uint8{2, 7, 0, 9, 0}, 0, 0b10100, 3, 10},
		// The greatest is at its limit 0.
		{[5]uint8{}, [5]uint8{}, 0, 0, 4, 1}, {[5]uint8{}, [5]uint8{}, 2, 0, 4, 1}, {[5]uint8{}, [5]uint8{}, 0, 0b11110, 0, 1}, {[5]uint8{1, 1, 0, 0, 0}, [5]uint8{1, 1, 0, 0, 0}, 0, 0b11000, 2, 1},
		{[5]uint8{1, 0, 0, 0, 0}, [5]uint8{}, 0, 0, 0, 1}, {[5]uint8{1, 0, 0, 0, 0}, [5]uint8{}, 1, 0, 4, 1},
		// Counts and limits at 255.
		{[5]uint8{255, 255, 255, 255, 255}, [5]uint8{254, 0, 0, 0, 0}, 0, 0, 0, 255}, {[5]uint8{255, 255, 255, 255, 255}, [5]uint8{255, 0, 0, 0, 0}, 0, 0, 1, 1},
		{[5]uint8{255, 255, 255, 255, 255}, [5]uint8{255, 255, 255, 255, 255}, 0, 0, 4, 255}, {[5]uint8{255, 255, 255, 255, 3}, [5]uint8{255, 255, 255, 255, 255}, 0, 0, 4, 255},
		{[5]uint8{0, 0, 0, 0, 0}, [5]uint8{0, 0, 255, 0, 0}, 0, 0b11000, 2, 255}, {[5]uint8{0, 0, 0, 0, 254}, [5]uint8{0, 0, 0, 0, 254}, 0, 0, 4, 255},
	} {
		for _, unit := range []int{-1, 0, 15} {
			for _, event := range []uint8{0, 7, 255} {
				raises(t, ladder(x.limits, x.counts), alarm(x.from, unit, event), x.inhibit, x.level, x.count)
			}
		}
	}
}

// TestRaiseRefused: none is allowed, or the alarm isn't Right.
func TestRaiseRefused(t *testing.T) {
	for _, f := range []fdir.Ladder{{}, ladder([5]uint8{9, 9, 9, 9, 9}, [5]uint8{}), ladder([5]uint8{1, 2, 3, 4, 5}, [5]uint8{5, 4, 3, 2, 1}), ladder([5]uint8{}, [5]uint8{255, 255, 255, 255, 255})} {
		for level, inhibit := range []uint8{0b11111, 0b11110, 0b11100, 0b11000, 0b10000} {
			refuses(t, f, alarm(uint8(level), 3, 7), inhibit)
			refuses(t, f, alarm(uint8(level), -1, 0), inhibit|0b11100000)
			refuses(t, f, alarm(uint8(level), 15, 255), 255)
		}
		for _, a := range wrong() {
			refuses(t, f, a, 0)
			refuses(t, f, a, 0b11100000)
			refuses(t, f, a, 0b01010)
			refuses(t, f, a, 255)
		}
	}
}

// room is a count and its limit: with room, at the limit, beyond it, at 255.
var room = []struct{ limit, count uint8 }{{1, 0}, {0, 0}, {255, 254}, {255, 255}, {3, 255}, {7, 8}}

// TestRaiseEach: each choice of these at all levels, from each level, with each
// inhibit, against the chapter's words.
func TestRaiseEach(t *testing.T) {
	for n := range 6 * 6 * 6 * 6 * 6 {
		var f fdir.Ladder
		for level, rest := 0, n; level < 5; level, rest = level+1, rest/6 {
			f.Limits[level], f.Counts[level] = room[rest%6].limit, room[rest%6].count
		}
		for inhibit := range uint8(32) {
			inhibit |= uint8(n) << 5
			for from := range uint8(5) {
				a := alarm(from, n%17-1, uint8(n))
				if level, ok := acting(f, from, inhibit); ok {
					raises(t, f, a, inhibit, level, uint8(min(int(f.Counts[level])+1, 255)))
				} else {
					refuses(t, f, a, inhibit)
				}
			}
		}
		if t.Failed() {
			t.FailNow()
		}
	}
}

// acting is the level that acts, by the chapter's words: two loops, the second
// for where there is no room.
func acting(f fdir.Ladder, from, inhibit uint8) (uint8, bool) {
	for level := int(from); level <= 4; level++ {
		if isAllowed(inhibit, uint8(level)) && int(f.Limits[level])-int(f.Counts[level]) > 0 {
			return uint8(level), true
		}
	}
	for level := 4; level >= int(from); level-- {
		if isAllowed(inhibit, uint8(level)) {
			return uint8(level), true
		}
	}
	return 0, false
}

func TestCalm(t *testing.T) {
	for _, limits := range [][5]uint8{{}, {1, 2, 3, 4, 5}, {255, 255, 255, 255, 255}} {
		for _, counts := range [][5]uint8{{}, {1, 0, 0, 0, 0}, {0, 0, 0, 0, 1}, {5, 4, 3, 2, 1}, {255, 255, 255, 255, 255}} {
			f := ladder(limits, counts)
			if got := f.Calm(); got != ladder(limits, [5]uint8{}) || f != ladder(limits, counts) {
				t.Errorf("%v.Calm() = %v", ladder(limits, counts), got)
			}
		}
	}
}

func TestClear(t *testing.T) {
	for _, limits := range [][5]uint8{{}, {1, 2, 3, 4, 5}, {255, 255, 255, 255, 255}} {
		for _, counts := range [][5]uint8{{}, {1, 2, 3, 4, 5}, {255, 255, 255, 255, 255}} {
			f := ladder(limits, counts)
			for level := range 256 {
				want := f
				if level < 5 {
					want.Counts[level] = 0
				}
				if got := f.Clear(uint8(level)); got != want || f != ladder(limits, counts) {
					t.Errorf("%v.Clear(%d) = %v, want %v", f, level, got, want)
				}
			}
		}
	}
}

// TestClimb: the same alarm again and again goes up level by level, each as
// often as its limit, and stays at the greatest; for P6 and P7, it gets there.
func TestClimb(t *testing.T) {
	for _, limits := range [][5]uint8{{}, {1, 1, 1, 1, 1}, {3, 0, 2, 1, 0}, {0, 0, 0, 0, 5}, {2, 3, 4, 5, 6}, {255, 1, 0, 255, 255}, {0, 255, 0, 0, 0}, {255, 255, 255, 255, 255}} {
		for from := range uint8(5) {
			for _, inhibit := range []uint8{0, 0b00010, 0b01100, 0b10000, 0b10101, 0b01111, 0b11100000, 0b11110000} {
				climb(t, fdir.Ladder{Limits: limits}, alarm(from, 6, 99), inhibit)
			}
		}
	}
}

// climb raises an alarm until the greatest level has acted often.
func climb(t *testing.T, f fdir.Ladder, a fdir.Alarm, inhibit uint8) {
	t.Helper()
	greatest := -1
	for level := int(a.Level); level < 5; level++ {
		if !isAllowed(inhibit, uint8(level)) {
			continue
		}
		greatest = level
		for n := range int(f.Limits[level]) {
			f = raises(t, f, a, inhibit, uint8(level), uint8(n+1))
		}
	}
	if greatest < 0 {
		refuses(t, f, a, inhibit)
		return
	}
	for n := range 300 {
		count := min(int(f.Limits[greatest])+n+1, 255)
		f = raises(t, f, a, inhibit, uint8(greatest), uint8(count))
	}
	if t.Failed() {
		t.FailNow()
	}
}

// TestClimbAnew: Calm and Clear in the midst of it.
func TestClimbAnew(t *testing.T) {
	f := fdir.Ladder{Limits: [5]uint8{2, 1, 0, 3, 1}}
	a := alarm(0, -1, 8)
	climbTo := func(levels ...uint8) {
		t.Helper()
		for _, level := range levels {
			f = raises(t, f, a, 0, level, f.Counts[level]+1)
		}
	}
	climbTo(0, 0, 1, 3, 3)
	f = f.Calm()
	climbTo(0, 0, 1, 3)
	f = f.Clear(0)
	climbTo(0, 0, 3)
	f = f.Clear(1)
	climbTo(1, 3)
	f = f.Clear(5).Clear(255).Clear(2)
	climbTo(4, 4, 4)
	f = f.Clear(3)
	climbTo(3, 3, 3, 4, 4)
	f = f.Clear(4)
	climbTo(4, 4)
	if f != ladder([5]uint8{2, 1, 0, 3, 1}, [5]uint8{2, 1, 0, 3, 2}) {
		t.Error("in the end", f)
	}
	// An alarm of another level in between counts, too.
	f = f.Calm()
	climbTo(0)
	f = raises(t, f, alarm(1, 4, 1), 0, 1, 1)
	f = raises(t, f, alarm(2, 4, 1), 0, 3, 1)
	climbTo(0, 3, 3, 4)
	if f.Calm() != (fdir.Ladder{Limits: [5]uint8{2, 1, 0, 3, 1}}) {
		t.Error("calm", f.Calm())
	}
}
