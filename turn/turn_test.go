package turn_test

import (
	"slices"
	"testing"

	"aerie/api"
	"aerie/bits"
	"aerie/plant"
	"aerie/strap"
	"aerie/turn"
	"aerie/unit"
)

const every = bits.Set(0xffff)

// chain is the chain of these units, -1 behind them.
func chain(units ...int8) strap.Chain {
	c := strap.Chain{-1, -1, -1, -1, -1, -1}
	copy(c[:], units)
	return c
}

// on is the turn that is Idle on this chain.
func on(c strap.Chain) turn.Turn { return turn.Turn{Phase: turn.Idle, From: c, To: c} }

// in is a turn in this phase.
func in(phase byte, from, to strap.Chain) turn.Turn {
	return turn.Turn{Phase: phase, From: from, To: to}
}

// samples are chains of all kinds: without units, with each role, with -1
// between units, with a unit twice, and with numbers that are no unit.
func samples() []strap.Chain {
	return []strap.Chain{
		chain(), chain(0), chain(15), chain(1, 4), chain(4, 1), chain(2, 3), chain(1, 3), chain(5, 4, 3, 2, 1, 0), chain(0, 1, 2, 3, 4, 5),
		chain(10, 11, 12, 13, 14, 15), chain(-1, 3, -1, 1, -1, 2), chain(-1, -1, -1, -1, -1, 7), chain(2, 2), chain(9, 2, 9, 2, 9, 2), chain(3, 3, 3, 3, 3, 3),
		chain(16, 1, 17, 4), chain(127, 3, -128, 2, -2, 15), chain(16, 17, 31, 32, 64, 127), chain(-2, -15, -16, -17, -127, -128), {}, chain(1, -16, 4, 16, 0, -128),
	}
}

// has reports whether a chain has a unit.
func has(c strap.Chain, unit int) bool { return slices.Contains(c[:], int8(unit)) }

// which are the units that are so, in increasing order.
func which(so func(unit int) bool) []int {
	var l []int
	for unit := range 16 {
		if so(unit) {
			l = append(l, unit)
		}
	}
	return l
}

// only are the units that the chain has and the other one has not.
func only(c, other strap.Chain) []int {
	return which(func(unit int) bool { return has(c, unit) && !has(other, unit) })
}

// next is what a plain model says of Next.
func next(t turn.Turn, works, lost bits.Set) (turn.Turn, turn.Step) {
	failed := which(func(unit int) bool { return has(t.To, unit) && lost>>unit&1 == 1 })
	awaited := which(func(unit int) bool { return has(t.To, unit) && works>>unit&1 == 0 })
	switch {
	case t.Phase == 1 && len(failed) > 0:
		var s bits.Set
		for _, unit := range failed {
			s |= 1 << unit
		}
		return on(t.From), turn.Step{Off: only(t.To, t.From), Failed: s}
	case t.Phase == 1 && len(awaited) == 0:
		return in(2, t.From, t.To), turn.Step{}
	case t.Phase == 2:
		return in(3, t.From, t.To), turn.Step{}
	case t.Phase == 3:
		return on(t.To), turn.Step{Off: only(t.From, t.To), Done: true}
	}
	return t, turn.Step{}
}

// same reports whether two steps are alike; an empty list is none.
func same(a, b turn.Step) bool {
	return slices.Equal(a.On, b.On) && slices.Equal(a.Off, b.Off) && a.Done == b.Done && a.Failed == b.Failed
}

// starts checks a Start that begins a switch-over, which orders these units on,
// and returns the turn behind it.
func starts(t *testing.T, x turn.Turn, to strap.Chain, powered bits.Set, units ...int) turn.Turn {
	t.Helper()
	before := x
	got, step, err := x.Start(to, powered)
	if got != in(turn.Powering, x.Active(), to) || !same(step, turn.Step{On: units}) || err != api.OK {
		t.Errorf("%v.Start(%v, %s) = %v, %v, %d, want On %v", x, to, powered.Text(), got, step, err, units)
	}
	if x != before {
		t.Error("Start changed the turn")
	}
	return got
}

// refuses checks a Start that is refused.
func refuses(t *testing.T, x turn.Turn, to strap.Chain, powered bits.Set) {
	t.Helper()
	if got, step, err := x.Start(to, powered); got != x || !same(step, turn.Step{}) || err != api.ErrState {
		t.Errorf("%v.Start(%v, %s) = %v, %v, %d, want ErrState", x, to, powered.Text(), got, step, err)
	}
}

// nexts checks a Next, and returns the turn behind it.
func nexts(t *testing.T, x turn.Turn, works, lost bits.Set, after turn.Turn, want turn.Step) turn.Turn {
	t.Helper()
	before := x
	got, step := x.Next(works, lost)
	if got != after || !same(step, want) {
		t.Errorf("%v.Next(%s, %s) = %v, %v, want %v, %v", x, works.Text(), lost.Text(), got, step, after, want)
	}
	if x != before {
		t.Error("Next changed the turn")
	}
	return got
}

// agrees checks a Next against the plain model.
func agrees(t *testing.T, x turn.Turn, works, lost bits.Set) {
	t.Helper()
	after, want := next(x, works, lost)
	nexts(t, x, works, lost, after, want)
}

// TestExample: the chapter's.
func TestExample(t *testing.T) {
	a, b := chain(1, 4), chain(2, 3)
	x := starts(t, on(a), b, bits.Of(1, 4), 2, 3)
	for _, works := range []bits.Set{bits.Of(1, 4), bits.Of(1, 4), bits.Of(1, 3, 4), bits.Of(1, 2, 4)} {
		x = nexts(t, x, works, 0, in(turn.Powering, a, b), turn.Step{})
	}
	x = nexts(t, x, bits.Of(1, 2, 3, 4), 0, in(turn.Selecting, a, b), turn.Step{})
	x = nexts(t, x, bits.Of(1, 2, 3, 4), 0, in(turn.Releasing, a, b), turn.Step{})
	x = nexts(t, x, bits.Of(1, 2, 3, 4), 0, in(turn.Idle, b, b), turn.Step{Off: []int{1, 4}, Done: true})
	nexts(t, x, bits.Of(2, 3), 0, in(turn.Idle, b, b), turn.Step{})
}

func TestPhases(t *testing.T) {
	if turn.Idle != 0 || turn.Powering != 1 || turn.Selecting != 2 || turn.Releasing != 3 {
		t.Error("phases", turn.Idle, turn.Powering, turn.Selecting, turn.Releasing)
	}
}

func TestStart(t *testing.T) {
	old := on(chain(1, 4))
	for _, x := range []struct {
		to      strap.Chain
		powered bits.Set
		want    []int
	}{
		{chain(2, 3), 0, []int{2, 3}}, {chain(2, 3), bits.Of(1, 4), []int{2, 3}}, {chain(2, 3), bits.Of(2), []int{3}}, {chain(2, 3), bits.Of(3), []int{2}}, {chain(2, 3), bits.Of(2, 3), nil},
		{chain(2, 3), every, nil}, {chain(2, 3), every.Without(3), []int{3}}, {chain(3, 2), 0, []int{2, 3}},
		{chain(15, 14, 3, 2, 1, 0), 0, []int{0, 1, 2, 3, 14, 15}}, {chain(15, 14, 3, 2, 1, 0), bits.Of(0, 15), []int{1, 2, 3, 14}}, {chain(7, 0, 9, 5, 15, 2), bits.Of(5, 6), []int{0, 2, 7, 9, 15}},
		{chain(6, 6), 0, []int{6}}, {chain(9, 2, 9, 2, 9, 2), 0, []int{2, 9}}, {chain(9, 2, 9, 2, 9, 2), bits.Of(2), []int{9}}, {chain(6, 6), bits.Of(6), nil},
		{chain(-1, 8, -1, 3), 0, []int{3, 8}}, {chain(-1, -1, -1, -1, -1, 0), 0, []int{0}}, {chain(-1, 8, -1, 3), bits.Of(8), []int{3}},
		{chain(16, 5, -2, 3, 127, -128), 0, []int{3, 5}}, {chain(16, 17, 127, -2, -16, -128), 0, nil}, {chain(), 0, nil}, {chain(), every, nil},
		// The active chain itself, and ones that share a unit with it.
		{chain(1, 4), 0, []int{1, 4}}, {chain(1, 4), bits.Of(1, 4), nil}, {chain(1, 3), bits.Of(1, 4), []int{3}}, {chain(1, 3), bits.Of(4), []int{1, 3}},
	} {
		starts(t, old, x.to, x.powered, x.want...)
	}
}

// TestStartEach: each set of units that are powered, with chains of all kinds.
func TestStartEach(t *testing.T) {
	for _, to := range samples() {
		for powered := range bits.Set(0xffff) {
			starts(t, on(chain(3, 9)), to, powered, which(func(unit int) bool { return has(to, unit) && powered>>unit&1 == 0 })...)
			if t.Failed() {
				t.FailNow()
			}
		}
		starts(t, on(chain(3, 9)), to, every)
	}
}

// TestStartBusy: only an Idle turn can be started.
func TestStartBusy(t *testing.T) {
	for _, from := range samples() {
		for _, to := range samples() {
			for phase := 1; phase < 256; phase++ {
				x := in(byte(phase), from, to)
				refuses(t, x, chain(7, 8), 0)
			}
			for _, phase := range []byte{turn.Powering, turn.Selecting, turn.Releasing, 4, 255} {
				for _, other := range []strap.Chain{from, to, chain(), chain(16, -128)} {
					refuses(t, in(phase, from, to), other, 0)
					refuses(t, in(phase, from, to), other, every)
				}
			}
			starts(t, on(from), to, every)
			if t.Failed() {
				t.FailNow()
			}
		}
	}
}

// TestStartActive: one that is Idle is on To, whatever its From is.
func TestStartActive(t *testing.T) {
	x := starts(t, in(turn.Idle, chain(1, 4), chain(2, 3)), chain(5, 2), bits.Of(2, 3), 5)
	if x != in(turn.Powering, chain(2, 3), chain(5, 2)) {
		t.Error("started from", x.From)
	}
}

func TestPowering(t *testing.T) {
	a, b := chain(1, 4, 6), chain(1, 5, 7)
	x := in(turn.Powering, a, b)
	all := bits.Of(1, 5, 7)
	selecting := in(turn.Selecting, a, b)
	// Some of To's units are lost.
	nexts(t, x, 0, bits.Of(5), on(a), turn.Step{Off: []int{5, 7}, Failed: bits.Of(5)})
	nexts(t, x, 0, bits.Of(7), on(a), turn.Step{Off: []int{5, 7}, Failed: bits.Of(7)})
	nexts(t, x, 0, bits.Of(1), on(a), turn.Step{Off: []int{5, 7}, Failed: bits.Of(1)})
	nexts(t, x, 0, all, on(a), turn.Step{Off: []int{5, 7}, Failed: all})
	nexts(t, x, 0, every, on(a), turn.Step{Off: []int{5, 7}, Failed: all})
	nexts(t, x, bits.Of(1, 7), bits.Of(5, 6, 15), on(a), turn.Step{Off: []int{5, 7}, Failed: bits.Of(5)})
	// Failed comes first, whether they work or not.
	nexts(t, x, all, bits.Of(5), on(a), turn.Step{Off: []int{5, 7}, Failed: bits.Of(5)})
	nexts(t, x, every, every, on(a), turn.Step{Off: []int{5, 7}, Failed: all})
	// Others that are lost are nothing to it.
	nexts(t, x, all, every.Less(all), selecting, turn.Step{})
	nexts(t, x, bits.Of(1, 5), bits.Of(4, 6), x, turn.Step{})
	nexts(t, x, 0, bits.Of(0, 4, 6, 8, 15), x, turn.Step{})
	// All work, all but one, none.
	nexts(t, x, all, 0, selecting, turn.Step{})
	nexts(t, x, every, 0, selecting, turn.Step{})
	for _, unit := range []int{1, 5, 7} {
		nexts(t, x, all.Without(unit), 0, x, turn.Step{})
		nexts(t, x, every.Without(unit), 0, x, turn.Step{})
	}
	nexts(t, x, every.Less(all), 0, x, turn.Step{})
	nexts(t, x, 0, 0, x, turn.Step{})
	// A To without units has nothing to wait for.
	for _, to := range []strap.Chain{chain(), chain(16, 127, -2, -128)} {
		nexts(t, in(turn.Powering, a, to), 0, 0, in(turn.Selecting, a, to), turn.Step{})
		nexts(t, in(turn.Powering, a, to), 0, every, in(turn.Selecting, a, to), turn.Step{})
	}
	// The order of Off, with a unit twice, and with -1 between.
	nexts(t, in(turn.Powering, chain(3), chain(15, 0, 9, 3, 9, 2)), 0, bits.Of(9), on(chain(3)), turn.Step{Off: []int{0, 2, 9, 15}, Failed: bits.Of(9)})
	nexts(t, in(turn.Powering, chain(), chain(-1, 5, 16, 2)), 0, bits.Of(2), on(chain()), turn.Step{Off: []int{2, 5}, Failed: bits.Of(2)})
	nexts(t, in(turn.Powering, chain(5, 2), chain(2, 5)), 0, bits.Of(2), on(chain(5, 2)), turn.Step{Failed: bits.Of(2)})
}

func TestReleasing(t *testing.T) {
	for _, x := range []struct {
		from, to strap.Chain
		off      []int
	}{
		{chain(1, 4), chain(2, 3), []int{1, 4}}, {chain(4, 1), chain(2, 3), []int{1, 4}}, {chain(1, 4), chain(1, 3), []int{4}}, {chain(1, 4), chain(4, 2), []int{1}},
		{chain(1, 4), chain(4, 1), nil}, {chain(1, 4), chain(1, 4), nil}, {chain(1, 4), chain(0, 1, 2, 3, 4), nil}, {chain(), chain(2, 3), nil}, {chain(1, 4), chain(), []int{1, 4}}, {chain(), chain(), nil},
		{chain(15, 0, 9, 3, 9, 2), chain(3), []int{0, 2, 9, 15}}, {chain(-1, 5, 16, 2, -128), chain(16, 127), []int{2, 5}}, {chain(15, 14, 13, 12, 11, 10), chain(12, -1, 10), []int{11, 13, 14, 15}},
	} {
		for _, works := range []bits.Set{0, every, x.to.Units(), x.from.Units()} {
			for _, lost := range []bits.Set{0, every, x.to.Units(), x.from.Units()} {
				nexts(t, in(turn.Selecting, x.from, x.to), works, lost, in(turn.Releasing, x.from, x.to), turn.Step{})
				nexts(t, in(turn.Releasing, x.from, x.to), works, lost, on(x.to), turn.Step{Off: x.off, Done: true})
				nexts(t, on(x.from), works, lost, on(x.from), turn.Step{})
			}
		}
	}
}

// TestNoPhase: in a Phase that there isn't, Next does nothing.
func TestNoPhase(t *testing.T) {
	for phase := 4; phase < 256; phase++ {
		x := in(byte(phase), chain(1, 4), chain(2, 3))
		for _, works := range []bits.Set{0, bits.Of(2, 3), every} {
			for _, lost := range []bits.Set{0, bits.Of(2), every} {
				nexts(t, x, works, lost, x, turn.Step{})
			}
		}
	}
}

// TestNextEach: chains of all kinds in each phase, with each set of the lower
// six units, and of the upper two, working and lost.
func TestNextEach(t *testing.T) {
	spread := func(n int) bits.Set { return bits.Set(n&0x3f | n<<8&0xc000) }
	pairs := [][2]strap.Chain{
		{chain(0, 1), chain(2, 3)}, {chain(0, 1), chain(1, 2)}, {chain(5, 15), chain(15, 4)}, {chain(0, 1, 2, 3, 4, 5), chain(1, 0, 14, -1, 15)},
		{chain(2, 2), chain(-1, 3, 3)}, {chain(), chain(14)}, {chain(15), chain()}, {chain(0, 16), chain(16, 1, -128)},
	}
	for _, p := range pairs {
		for works := range 256 {
			for lost := range 256 {
				agrees(t, in(turn.Powering, p[0], p[1]), spread(works), spread(lost))
			}
			for _, phase := range []byte{turn.Idle, turn.Selecting, turn.Releasing, 4, 255} {
				agrees(t, in(phase, p[0], p[1]), spread(works), spread(255-works))
				agrees(t, in(phase, p[0], p[1]), 0, spread(works))
			}
			if t.Failed() {
				t.FailNow()
			}
		}
	}
}

// TestNextPairs: each pair of chains, with all working, with each one alone not
// working, and with each one alone lost.
func TestNextPairs(t *testing.T) {
	for _, from := range samples() {
		for _, to := range samples() {
			for phase := range byte(6) {
				x := in(phase, from, to)
				for _, works := range []bits.Set{0, every, to.Units(), from.Units()} {
					for _, lost := range []bits.Set{0, every, every.Less(to.Units()), from.Units()} {
						agrees(t, x, works, lost)
					}
				}
				for unit := range 16 {
					agrees(t, x, every.Without(unit), 0)
					agrees(t, x, bits.Of(unit), 0)
					agrees(t, x, every, bits.Of(unit))
					agrees(t, x, 0, bits.Of(unit))
				}
			}
		}
		if t.Failed() {
			t.FailNow()
		}
	}
}

// TestActive: Active, Busy and Stop in each phase.
func TestActive(t *testing.T) {
	a, b := chain(1, 4), chain(2, 3)
	for phase := range 256 {
		x := in(byte(phase), a, b)
		want := b
		if phase == 1 || phase == 2 {
			want = a
		}
		if x.Active() != want || x.Busy() != (phase != 0) || x.Stop() != on(want) {
			t.Errorf("phase %d: Active %v, Busy %t, Stop %v", phase, x.Active(), x.Busy(), x.Stop())
		}
		if x != in(byte(phase), a, b) {
			t.Error("the turn was changed")
		}
	}
	for _, from := range samples() {
		for _, to := range samples() {
			for phase, want := range []strap.Chain{to, from, from, to} {
				x := in(byte(phase), from, to)
				if x.Active() != want || x.Busy() != (phase != 0) || x.Stop() != on(want) || x.Stop().Stop() != on(want) {
					t.Errorf("%v: Active %v, Busy %t, Stop %v", x, x.Active(), x.Busy(), x.Stop())
				}
			}
		}
		if x := on(from); x.Active() != from || x.Busy() || x.Stop() != x {
			t.Errorf("idle on %v: Active %v, Busy %t, Stop %v", from, x.Active(), x.Busy(), x.Stop())
		}
	}
}

// TestStopped: after a Stop in each phase, another switch-over begins from the
// chain that was active.
func TestStopped(t *testing.T) {
	a, b, c := chain(1, 4), chain(2, 3), chain(5, 6)
	x := starts(t, on(a), b, bits.Of(1, 4), 2, 3)
	starts(t, x.Stop(), c, bits.Of(1, 2, 3, 4), 5, 6)
	if x.Stop() != on(a) {
		t.Error("stopped while powering:", x.Stop())
	}
	x, _ = x.Next(every, 0)
	if x.Stop() != on(a) {
		t.Error("stopped while selecting:", x.Stop())
	}
	x, _ = x.Next(every, 0)
	if x.Stop() != on(b) {
		t.Error("stopped while releasing:", x.Stop())
	}
	x = starts(t, x.Stop(), c, bits.Of(1, 2, 3, 4), 5, 6)
	if x.Active() != b || x.From != b {
		t.Error("started from", x.From)
	}
}

// run has a turn go on until it isn't Busy, at most so often, and returns it,
// all that it ordered off, and how often it was Done.
func run(t *testing.T, x turn.Turn, works, lost bits.Set, most int) (turn.Turn, []int, int) {
	t.Helper()
	var off []int
	done := 0
	for range most {
		var step turn.Step
		x, step = x.Next(works, lost)
		off = append(off, step.Off...)
		if step.Done {
			done++
		}
		if len(step.On) > 0 || step.Failed.Less(lost) != 0 {
			t.Errorf("Next orders %v on, %s failed", step.On, step.Failed.Text())
		}
	}
	return x, off, done
}

// TestWhole: what a whole switch-over orders between each pair of chains.
func TestWhole(t *testing.T) {
	for _, from := range samples() {
		for _, to := range samples() {
			needed := which(func(unit int) bool { return has(to, unit) && !has(from, unit) })
			x := starts(t, on(from), to, from.Units(), needed...)
			x, off, done := run(t, x, every, 0, 3)
			if x != on(to) || !slices.Equal(off, only(from, to)) || done != 1 {
				t.Errorf("%v to %v: %v, off %v, done %d times", from, to, x, off, done)
			}
			x, off, done = run(t, x, every, every, 3)
			if x != on(to) || len(off) > 0 || done != 0 {
				t.Errorf("%v to %v, behind it: %v, off %v, done %d times", from, to, x, off, done)
			}
		}
	}
}

// TestFails: after a failure the chain that was active is so again, and another
// switch-over can be started.
func TestFails(t *testing.T) {
	a, b, c := chain(1, 4), chain(1, 3), chain(2, 4)
	x := starts(t, on(a), b, bits.Of(1, 4), 3)
	x = nexts(t, x, bits.Of(1, 4), 0, in(turn.Powering, a, b), turn.Step{})
	refuses(t, x, c, bits.Of(1, 4))
	x = nexts(t, x, bits.Of(1, 4), bits.Of(3), on(a), turn.Step{Off: []int{3}, Failed: bits.Of(3)})
	if x.Active() != a || x.Busy() {
		t.Errorf("after a failure: Active %v, Busy %t", x.Active(), x.Busy())
	}
	nexts(t, x, bits.Of(1, 4), bits.Of(3), on(a), turn.Step{})
	x = starts(t, x, c, bits.Of(1, 4), 2)
	x, off, done := run(t, x, bits.Of(1, 2, 4), bits.Of(3), 3)
	if x != on(c) || !slices.Equal(off, []int{1}) || done != 1 {
		t.Errorf("the other one: %v, off %v, done %d times", x, off, done)
	}
	// The chain that failed can be tried again.
	x = starts(t, x, b, bits.Of(2, 4), 1, 3)
	x, off, done = run(t, x, every, 0, 3)
	if x != on(b) || !slices.Equal(off, []int{2, 4}) || done != 1 {
		t.Errorf("tried again: %v, off %v, done %d times", x, off, done)
	}
}

func TestBound(t *testing.T) {
	for _, x := range []struct {
		waits []uint8
		want  int
	}{
		{nil, 4}, {[]uint8{}, 4}, {[]uint8{0}, 4}, {[]uint8{1}, 5}, {[]uint8{7}, 11}, {[]uint8{251}, 255}, {[]uint8{252}, 256}, {[]uint8{254}, 258}, {[]uint8{255}, 259},
		{[]uint8{3, 9, 5}, 13}, {[]uint8{9, 3, 5}, 13}, {[]uint8{3, 5, 9}, 13}, {[]uint8{9, 9}, 13}, {[]uint8{0, 0, 0}, 4}, {[]uint8{0, 255, 0}, 259}, {[]uint8{255, 255, 255}, 259}, {[]uint8{127, 128}, 132},
		{make([]uint8, 1000), 4}, {append(make([]uint8, 1000), 15), 19},
	} {
		waits := slices.Clone(x.waits)
		if got := turn.Bound(waits...); got != x.want {
			t.Errorf("Bound(%v) = %d, want %d", x.waits, got, x.want)
		}
		if !slices.Equal(waits, x.waits) {
			t.Error("Bound changed the waits")
		}
	}
	for wait := range 256 {
		if got := turn.Bound(uint8(wait), 0); got != wait+4 {
			t.Errorf("Bound(%d, 0) = %d", wait, got)
		}
	}
}

// TestWithinBound: with units that may take as long as their rules let them, a
// switch-over is over within its bound, whether they answer or not.
func TestWithinBound(t *testing.T) {
	for _, waits := range [][]uint8{{0, 0}, {0, 3}, {5, 2}, {15, 15}, {1, 255}} {
		for _, late := range []int{0, 1, 2, 3, 5, 15, 200, 255, 1000} {
			p, _ := plant.New(unit.Rule{}, unit.Rule{Wait: waits[0]}, unit.Rule{Wait: waits[1]})
			x, step, _ := on(chain(0)).Start(chain(1, 2), p.Powered())
			p, _ = p.Order(true, step.On...)
			calls, ends := 0, 0
			for x.Busy() && calls < 1000 {
				var acks bits.Set
				if calls >= late {
					acks = every
				}
				p, _, _ = p.Step(acks, every)
				x, step = x.Next(p.Works(), p.Lost())
				calls++
				if step.Done || step.Failed != 0 {
					ends++
				}
			}
			if calls > turn.Bound(waits...) || ends != 1 || x.Busy() {
				t.Errorf("waits %v, acknowledged %d cycles late: %d calls, ended %d times", waits, late, calls, ends)
			}
			if served := late <= int(min(waits[0], waits[1])); served != (x == on(chain(1, 2))) {
				t.Errorf("waits %v, acknowledged %d cycles late: %v", waits, late, x)
			}
		}
	}
}

// spoil overwrites a list, and what it has to spare.
func spoil(l []int) {
	l = l[:cap(l)]
	for i := range l {
		l[i] = 77
	}
}

// TestMemory: the lists of a step are the caller's.
func TestMemory(t *testing.T) {
	a, b := chain(1, 4, 6), chain(2, 3, 5)
	for range 2 {
		_, start, _ := on(a).Start(b, 0)
		_, other, _ := on(a).Start(b, 0)
		spoil(start.On)
		if !slices.Equal(other.On, []int{2, 3, 5}) {
			t.Error("On of another Start was changed:", other.On)
		}
		_, done := in(turn.Releasing, a, b).Next(0, 0)
		_, again := in(turn.Releasing, a, b).Next(0, 0)
		spoil(done.Off)
		if !slices.Equal(again.Off, []int{1, 4, 6}) {
			t.Error("Off of another Next was changed:", again.Off)
		}
		_, failed := in(turn.Powering, a, b).Next(0, bits.Of(2))
		_, again = in(turn.Powering, a, b).Next(0, bits.Of(2))
		spoil(failed.Off)
		if !slices.Equal(again.Off, []int{2, 3, 5}) {
			t.Error("Off of another Next was changed:", again.Off)
		}
	}
}

// draws gives numbers below n, the same ones in each run.
func draws(seed uint32) func(n int) int {
	return func(n int) int {
		seed = seed*1664525 + 1013904223
		return int(seed>>8) % n
	}
}

// TestAgainstPlain: long mixes of calls, of turns that go on from one another.
func TestAgainstPlain(t *testing.T) {
	draw := draws(20)
	chains := samples()
	seen := map[byte]int{}
	x := on(chain(1, 4))
	for range 50000 {
		works, lost := bits.Set(draw(65536))|bits.Set(draw(65536)), bits.Set(draw(65536))&bits.Set(draw(65536))&bits.Set(draw(65536))
		seen[x.Phase]++
		switch draw(12) {
		case 0, 1, 2:
			to := chains[draw(len(chains))]
			if x.Busy() {
				refuses(t, x, to, works)
				continue
			}
			x = starts(t, x, to, works, which(func(unit int) bool { return has(to, unit) && works>>unit&1 == 0 })...)
		case 3:
			if draw(4) == 0 {
				x = x.Stop()
			}
		default:
			after, want := next(x, works, lost)
			x = nexts(t, x, works, lost, after, want)
		}
		if t.Failed() {
			t.FailNow()
		}
	}
	for phase := range byte(4) {
		if seen[phase] < 1000 {
			t.Errorf("phase %d was seen %d times", phase, seen[phase])
		}
	}
}
