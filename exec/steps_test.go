package exec_test

import (
	"math"
	"slices"
	"testing"

	"aerie/action"
	"aerie/api"
	"aerie/bits"
	"aerie/cell"
	"aerie/check"
	"aerie/context"
	"aerie/exec"
	"aerie/guard"
	"aerie/monitor"
	"aerie/strap"
)

// TestExample: the chapter's.
func TestExample(t *testing.T) {
	x := fly(t, config())
	x.tc(17, 1)
	x.run(1)
	x.wants("reports", x.kinds(), "1,1 17,2 1,7")
	for _, r := range x.told {
		if r.Time != 1 {
			t.Error(r)
		}
	}
}

// TestTime: it is increased by one first.
func TestTime(t *testing.T) {
	x := fly(t, bare())
	for n := uint32(1); n < 300; n++ {
		x.tc(17, 1)
		x.run(1)
		if x.Time() != n || x.told[1].Time != n {
			t.Fatal(x.Time(), x.told)
		}
	}
}

// TestFlipsThenReset: step 1, whose flips are ahead of its reset.
func TestFlipsThenReset(t *testing.T) {
	x := fly(t, config())
	x.in.Flips = []exec.Flip{{Copy: 0, At: 7, Mask: 1}, {Copy: 2, At: 7, Mask: 1}}
	x.in.Reset = 1
	x.run(1)
	x.wants("events", x.noted(), "10/0/1 11/3/0")
	x.in.Flips = []exec.Flip{{Copy: 0, At: 7, Mask: 1}}
	x.in.Reset = 1
	x.run(1)
	x.wants("events", x.noted(), "10/0/2")
}

// TestResetThenUnits: step 1 is ahead of step 2: what is off is not lost.
func TestResetThenUnits(t *testing.T) {
	c := with(func(c *exec.Config) { c.Units = rules(8, 0, 0) })
	x := fly(t, c)
	x.runs("", "+0 +2 +5")
	x.in.Acks, x.in.Reset = 0, 1
	x.runs("10/0/1", "+0 +2 +5")
	x.runs("1/3/0 1/3/2 1/3/5", "+1 +3 +6")
	// An acknowledgement in the very cycle of a reset is nobody's.
	x = fly(t, c)
	x.run(1)
	x.in.Reset = 1
	x.run(1)
	x.in.Acks = 0
	x.run(1)
	x.is("10/0/1 1/3/0 1/3/2 1/3/5", "+1 +3 +6")
}

// TestUnitsThenCommands: step 2 is ahead of step 3: what is lost in a cycle may
// be cleared in it.
func TestUnitsThenCommands(t *testing.T) {
	x := settled(t, with(func(c *exec.Config) { c.Units = rules(8, 0, 0) }))
	x.noted()
	x.in.Acks = every.Without(2)
	x.acked(1, 128, 2, 2)
	x.runs("1/3/2", "")
	x.wants("reports", x.kinds(), "5,4 1,1")
	if x.Context().Failed != 0 {
		t.Error(x.Context())
	}
	// The unit is lost all the same, and has failed without the command.
	x.runs("", "")
	x.in.Acks = every.Without(5)
	x.runs("1/3/5", "+2 +6")
	if x.Context().Failed != bits.Of(5) {
		t.Error(x.Context())
	}
}

// TestCommandsThenMonitor: step 3 is ahead of step 4.
func TestCommandsThenMonitor(t *testing.T) {
	c := with(func(c *exec.Config) { c.Mons = []monitor.Rule{limit(9, 20, 2, -1)} })
	x := fly(t, c)
	x.in.Params[9] = 6
	x.tc(12, 2, 0)
	x.run(1)
	x.wants("reports", x.kinds(), "1,1 1,7")
	x.tc(12, 1, 0)
	x.run(1)
	x.wants("reports", x.kinds(), "1,1 1,7 12,12 5,3 5,4")
	x = fly(t, c)
	x.in.Params[9] = 6
	d := check.Def{Param: 9, Low: 6, High: 6}
	x.tc(12, 7, append([]byte{0}, d.Bytes()...)...)
	x.run(1)
	x.wants("reports", x.kinds(), "1,1 1,7 12,12")
	if len(x.Violated()) != 0 {
		t.Error(x.Violated())
	}
	// A row is there for what is found in the same cycle.
	x = settled(t, with(func(c *exec.Config) { c.Mons = []monitor.Rule{limit(9, 20, 0, -1)} }))
	x.in.Params[9] = 6
	x.acked(0, 19, 1, 20, action.Cut, 2, 1)
	x.run(1)
	x.wants("orders", x.orders(), "-2")
}

// TestMonitorThenAlarms: step 4 is ahead of step 5, and step 3 is, too.
func TestMonitorThenAlarms(t *testing.T) {
	c := with(func(c *exec.Config) { c.Mons = []monitor.Rule{limit(9, 20, 2, -1)} })
	x := fly(t, c)
	x.in.Params[9] = 6
	x.runs("20/2/0 4/3/2", "+0 +2 +5")
	x.in.Params[9] = 5
	x.runs("", "")
	x = fly(t, c)
	x.in.Params[9] = 6
	x.acked(0, 128, 7, 2)
	x.runs("20/2/0", "+0 +2 +5")
}

// TestAlarmsThenSwitchOver: step 5 is ahead of step 6.
func TestAlarmsThenSwitchOver(t *testing.T) {
	x := settled(t, with(func(c *exec.Config) { c.Mons = []monitor.Rule{limit(9, 20, 1, 2)} }))
	x.noted()
	x.in.Params[9] = 6
	x.runs("20/2/0 4/3/1", "+3")
}

// TestSwitchOverThenMode: step 6 is ahead of step 7.
func TestSwitchOverThenMode(t *testing.T) {
	x := settled(t, config())
	x.do(128, 1, api.Detumble)
	x.noted()
	x.acked(0, 128, 4, 0)
	x.acked(0, 128, 4, 1)
	x.runs("9/3/0 5/1/0", "")
	if x.Mode() != api.Safe {
		t.Error(x.Mode())
	}
}

// TestModeThenActuators: step 7 is ahead of step 8.
func TestModeThenActuators(t *testing.T) {
	x := fly(t, with(func(c *exec.Config) { c.Modes.Calm = 1 }))
	x.in.Params[3], x.in.Params[7] = 100, 30
	x.do(128, 1, api.Detumble)
	if x.noted() != "5/1/2" || x.out.Torque != (api.Vec{-400, 0, 58}) || x.out.Dipole != (api.Vec{}) {
		t.Error(x.out)
	}
}

// TestActuatorsThenMemory: step 8 is ahead of step 9, whose reset it does not
// know of.
func TestActuatorsThenMemory(t *testing.T) {
	x := fly(t, bare())
	x.in.Params[0] = 10
	x.run(1)
	x.in.Params[0] = 20
	x.in.Reset = 2
	x.do(128, 1, api.Detumble)
	if x.out.Dipole != (api.Vec{-40, 0, 0}) || x.out.Mode != api.Safe || x.Mode() != api.Safe {
		t.Error(x.out)
	}
	// No field has been seen yet.
	x.in.Params[0] = 35
	x.do(128, 1, api.Detumble)
	if x.out.Dipole != (api.Vec{}) || x.out.Mode != api.Detumble {
		t.Error(x.out)
	}
	x.in.Params[0] = 30
	x.run(1)
	if x.out.Dipole != (api.Vec{20, 0, 0}) {
		t.Error(x.out)
	}
}

// TestMemoryThenTelemetry: step 9 is ahead of step 10, whose reset is the last.
func TestMemoryThenTelemetry(t *testing.T) {
	x := fly(t, with(func(c *exec.Config) { c.Scrub = 1 }))
	x.in.Flips = []exec.Flip{{Copy: 1, At: 0, Mask: 255}}
	x.in.Reset = 2
	x.run(1)
	x.wants("reports", x.kinds(), "5,1")
	x.in.Flips = []exec.Flip{{Copy: 1, At: 0, Mask: 255}}
	x.run(1)
	x.wants("reports", x.kinds(), "5,1")
	x.wants("events", x.noted(), "10/0/1 7/0/1")
	x.in.Reset = 3
	x.run(1)
	x.wants("reports", x.kinds(), "")
	x.wants("events", x.noted(), "10/0/2")
	if len(x.Queue()) != 1 || x.Queue()[0].Time != 3 {
		t.Error(x.Queue())
	}
	x.run(1)
	x.wants("reports", x.kinds(), "5,1")
}

// TestResets: at each place, and at none.
func TestResets(t *testing.T) {
	for reset := range 256 {
		x := settled(t, with(func(c *exec.Config) { c.Mons = []monitor.Rule{limit(9, 20, 0, 7)} }))
		x.in.Params[3] = 200
		x.do(128, 1, api.Detumble)
		x.in.Params[9] = 6
		x.run(1)
		x.noted()
		x.in.Reset = uint8(reset)
		x.run(1)
		switch reset {
		case 1:
			// What follows in the cycle begins anew.
			x.is("10/0/1 20/2/0 4/3/0", "+0 +2 +5")
		case 2, 3:
			x.is("4/3/0 10/0/1", "")
		default:
			x.is("4/3/0", "")
			x.on("0 2 5 - - -", "0 2 5 - - -")
			if x.Context().Resets != 0 || x.out.Mode != api.Detumble || x.Busy() {
				t.Error(reset, x.Context())
			}
			continue
		}
		x.on("- - - - - -", "0 2 5 - - -")
		if c := x.Context(); c.Resets != 1 || c.Mode != api.Safe || x.out.Mode != api.Safe || c != x.wrote() || x.Busy() != (reset == 1) {
			t.Error(reset, c, x.out.Mode, x.Busy())
		}
	}
}

// TestResetKeepsAndClears: what a reset leaves as it is, and what it clears.
func TestResetKeepsAndClears(t *testing.T) {
	for _, reset := range []uint8{1, 2, 3} {
		x := settled(t, with(func(c *exec.Config) {
			c.Mons = []monitor.Rule{limit(9, 20, 0, 7), limit(10, 21, 0, -1), limit(11, 22, 0, -1)}
			c.Mons[0].Repeat, c.Mons[1].Enabled = 2, false
			c.Ladder[0] = 1
			c.Send = 0
		}))
		x.in.Params[3] = 200
		x.acked(0, 12, 1, 1)
		x.acked(0, 12, 2, 2)
		x.acked(0, 12, 7, append([]byte{1}, check.Def{Param: 12, Low: 1, High: 1}.Bytes()...)...)
		x.acked(0, 19, 1, 21, action.Fail, 7, 1)
		x.acked(0, 19, 9)
		x.acked(0, 128, 1, api.Detumble)
		x.acked(0, 128, 3, 3)
		x.acked(0, 128, 4, 4)
		x.acked(0, 128, 7, 4)
		x.run(1)
		x.in.Params[9] = 6
		x.in.Params[12], x.in.Params[11] = 1, 99
		x.run(1)
		log, queue := x.Log(), x.Queue()
		before := x.Context()
		x.in.Params[9] = 5
		x.in.Reset = reset
		x.run(1)
		after := x.Context()
		before.Resets, before.Mode = 1, api.Safe
		if after != before || after.Failed != bits.Of(3) || after.Inhibited != bits.Of(4) || after.Inhibit != 16 {
			t.Error(reset, after, before)
		}
		if l := x.Log(); !slices.Equal(l[:len(log)], log) || l[len(log)] != entry(uint32(len(log)+1), 7, 10, 0, 1) {
			t.Error(reset, l)
		}
		if q := x.Queue(); len(q) < len(queue)+1 || q[0].Count != 0 || q[len(queue)].Service != 5 || int(q[len(queue)].Count) != len(queue) {
			t.Error(reset, q)
		}
		if x.Time() != 7 {
			t.Error(x.Time())
		}
		// The monitor has seen nothing, but its definitions are kept, and which
		// rules are enabled; and the action table, which is off.
		x.noted()
		x.in.Params[9] = 6
		x.run(1)
		if len(x.Violated()) != 0 {
			t.Error(reset, x.Violated())
		}
		x.in.Params[12] = 9
		x.acked(0, 19, 8)
		x.run(1)
		if !slices.Equal(x.Violated(), []int{0, 1}) || x.Context().Failed != bits.Of(3, 7) {
			t.Error(reset, x.Violated(), x.Context())
		}
	}
}

// TestResetLadder: the ladder is Calm.
func TestResetLadder(t *testing.T) {
	for _, reset := range []uint8{0, 1, 2, 3} {
		x := fly(t, with(func(c *exec.Config) {
			c.Units, c.Map = nil, strap.Map{}
			c.Mons = []monitor.Rule{limit(9, 20, 0, -1)}
			c.Ladder = [5]uint8{2, 1, 1, 1, 1}
		}))
		x.in.Params[9] = 6
		x.run(2)
		x.noted()
		x.in.Reset = reset
		x.run(1)
		x.run(1)
		want := map[uint8]string{0: "4/3/1 4/3/2", 1: "10/0/1 20/2/0 4/3/0 4/3/0", 2: "4/3/1 10/0/1 20/2/0 4/3/0", 3: "4/3/1 10/0/1 20/2/0 4/3/0"}
		x.wants("events", x.noted(), want[reset])
	}
}

// TestResetCounts: each is told, and they end at 65535.
func TestResetCounts(t *testing.T) {
	x := fly(t, bare())
	for n := 1; n <= 20; n++ {
		x.in.Reset = byte(1 + n%3)
		x.run(1)
		if x.Context().Resets != uint16(n) {
			t.Fatal(x.Context())
		}
		last := x.Log()[len(x.Log())-1]
		if last.Event != 10 || last.Grade != 0 || last.Data != uint32(n) || last.Time != uint32(n) {
			t.Fatal(last)
		}
	}
	c := context.Default()
	c.Resets = 65534
	e, _ := exec.Restart(bare(), held(c))
	for _, reset := range []uint8{0, 1, 2, 3} {
		e.Cycle(exec.Input{Reset: reset})
		if e.Context().Resets != 65535 {
			t.Error(e.Context())
		}
	}
}

// TestResetFromNothing: with a memory of which too little is left, at each
// place.
func TestResetFromNothing(t *testing.T) {
	for _, reset := range []uint8{1, 2, 3} {
		x := settled(t, config())
		x.do(128, 3, 7)
		x.noted()
		x.in.Flips = []exec.Flip{{Copy: 1, At: 3, Mask: 4}, {Copy: 2, At: 5, Mask: 4}}
		x.in.Reset = reset
		x.run(1)
		x.wants("events", x.noted(), "10/0/1 11/3/0")
		if c := x.Context(); c != context.Default().Reset() || c != x.wrote() || x.Memory().Good() != 7 {
			t.Error(reset, c)
		}
	}
}

// seq is the number of what the memory contains.
func (x *craft) memorySeq() uint32 {
	x.t.Helper()
	seq, _, err := x.Memory().Read()
	if err != api.OK || x.Memory().Good() != 7 || x.Memory().Pending() {
		x.t.Fatal("memory", seq, err, x.Memory().Good())
	}
	if x.wrote() != x.Context() {
		x.t.Fatalf("cycle %d: the memory has %v, not %v", x.Time(), x.wrote(), x.Context())
	}
	return seq
}

// TestWritten: just if the context differs from what was written last.
func TestWritten(t *testing.T) {
	x := fly(t, config())
	x.in.Params[3] = 200
	seq := uint32(1)
	writes := func(n uint32) {
		t.Helper()
		seq += n
		if got := x.memorySeq(); got != seq {
			t.Errorf("cycle %d: number %d, want %d", x.Time(), got, seq)
			seq = got
		}
	}
	for _, n := range []uint32{0, 0, 0, 1, 0, 0, 0} {
		x.run(1)
		writes(n) // the chain, when it is taken
	}
	for _, step := range []struct {
		service, sub byte
		data         []byte
		n            uint32
	}{
		{17, 1, nil, 0}, {128, 1, []byte{1}, 1}, {128, 1, []byte{1}, 0}, {128, 1, []byte{2}, 1}, {128, 1, []byte{0}, 1}, {128, 1, []byte{0}, 0},
		{128, 3, []byte{7}, 1}, {128, 3, []byte{7}, 0}, {128, 2, []byte{7}, 1}, {128, 2, []byte{7}, 0},
		{128, 4, []byte{7}, 1}, {128, 4, []byte{7}, 0}, {128, 5, []byte{7}, 1}, {128, 5, []byte{7}, 0},
		{128, 7, []byte{3}, 1}, {128, 7, []byte{3}, 0}, {128, 8, []byte{3}, 1}, {128, 8, []byte{3}, 0}, {128, 6, []byte{0}, 0},
		{19, 1, []byte{1, 2, 3, 1}, 0}, {19, 9, nil, 0}, {3, 27, nil, 0},
	} {
		x.do(step.service, step.sub, step.data...)
		writes(step.n)
	}
	// There and back in one cycle.
	x.acked(0, 128, 3, 7)
	x.acked(0, 128, 2, 7)
	x.run(1)
	writes(0)
	// A Retry is spent, and Exhausted comes and goes.
	x.do(128, 3, 0)
	writes(1)
	x.run(3)
	writes(1)
	x.do(128, 4, 1)
	writes(1)
	if !x.Context().Exhausted {
		t.Error(x.Context())
	}
	x.run(5)
	writes(0)
	// A reset fills, and nothing differs from that.
	for _, reset := range []uint8{1, 3, 2, 1, 1} {
		x.in.Reset = reset
		x.run(1)
		writes(1)
	}
	x.run(9)
	writes(0)
	// A write and a reset: between its phases, and behind it.
	x.in.Reset = 2
	x.do(128, 3, 7)
	writes(2)
	x.in.Reset = 3
	x.do(128, 2, 7)
	writes(2)
	x.in.Reset = 1
	x.do(128, 3, 7)
	writes(2)
	x.run(3)
	writes(0)
}

// TestResetBetween: what the memory has between the phases of a write.
func TestResetBetween(t *testing.T) {
	for _, x := range []struct {
		flips  []exec.Flip
		events string
		failed bits.Set
	}{
		// Copy 0 is written, whatever it was, and the others are read with it.
		{nil, "10/0/1", bits.Of(6, 7)}, {all(0), "10/0/1", bits.Of(6, 7)}, {all(1), "10/0/1", bits.Of(6, 7)}, {all(2), "10/0/1", bits.Of(6, 7)},
		{all(0, 1), "10/0/1", bits.Of(6, 7)}, {all(0, 2), "10/0/1", bits.Of(6, 7)}, {all(1, 2), "10/0/1 11/3/0", 0}, {all(0, 1, 2), "10/0/1 11/3/0", 0},
	} {
		for _, reset := range []uint8{2, 0} {
			e := fly(t, with(func(c *exec.Config) { c.Map = strap.Map{} }))
			e.do(128, 3, 7)
			e.in.Flips, e.in.Reset = x.flips, reset
			e.do(128, 3, 6)
			events, failed, seq := x.events, x.failed, e.memorySeq()
			if reset == 0 {
				// The write ends, and repairs all; of none, it is the first one.
				events, failed = "", bits.Of(6, 7)
				if (seq == 3) != (len(x.flips) < 3) || seq == 0 {
					t.Error(x.flips, seq)
				}
			}
			e.wants("events", e.noted(), events)
			if e.Context().Failed != failed {
				t.Error(x.flips, reset, e.Context())
			}
		}
	}
}

// TestResetBetweenNothing: reset 2 with nothing to be written.
func TestResetBetweenNothing(t *testing.T) {
	x := settled(t, config())
	x.noted()
	x.run(3)
	x.in.Reset = 2
	x.run(1)
	x.is("10/0/1", "")
	x.on("- - - - - -", "0 2 5 - - -")
	if x.memorySeq() != 3 {
		t.Error(x.memorySeq())
	}
	// One copy spoilt, and no write that repairs it: the others are read.
	x.in.Flips = []exec.Flip{{Copy: 0, At: 9, Mask: 1}}
	x.in.Reset = 2
	x.run(1)
	x.is("10/0/2", "+0 +2 +5")
	x.in.Flips = []exec.Flip{{Copy: 0, At: 9, Mask: 1}, {Copy: 1, At: 9, Mask: 1}}
	x.in.Reset = 2
	x.run(1)
	x.is("10/0/1 11/3/0", "+0 +2 +5")
}

// full is a memory with the last number there is.
func full(c context.Context) *guard.Memory {
	last, _ := cell.Make(math.MaxUint32, c.Bytes())
	return guard.Of(last, last, last)
}

// all are flips that leave none of these copies.
func all(copies ...int) []exec.Flip {
	var f []exec.Flip
	for _, n := range copies {
		f = append(f, exec.Flip{Copy: n, At: 1, Mask: 1})
	}
	return f
}

// TestFullMemory: one into which nothing can be written any more goes on
// holding what it had, and the executive goes on.
func TestFullMemory(t *testing.T) {
	c := context.Default().Fail(7)
	m := full(c)
	e, err := exec.Restart(with(func(c *exec.Config) { c.Map = strap.Map{} }), m)
	x := &craft{Exec: e, t: t}
	if err != api.OK || e.Context() != c.Reset() || x.wrote() != c {
		t.Fatal(err, e.Context())
	}
	x.run(1)
	x.do(128, 3, 6)
	if e.Context().Failed != bits.Of(6, 7) || x.wrote() != c || m.Pending() {
		t.Error(e.Context(), x.wrote())
	}
	// A reset brings back what it holds.
	x.in.Reset = 1
	x.run(1)
	if e.Context() != c.Reset() || x.wrote() != c {
		t.Error(e.Context())
	}
}

// TestWrittenFullMemory: what was written last is the context of a Begin that
// was OK, and that of a Fill or a Boot in any case. When none of its copies is
// left, a memory can be written again.
func TestWrittenFullMemory(t *testing.T) {
	c := context.Default().Fail(7)
	start := func(scrub uint8) *craft {
		m := full(c)
		e, err := exec.Restart(with(func(c *exec.Config) { c.Map, c.Scrub = strap.Map{}, scrub }), m)
		if err != api.OK {
			t.Fatal(err)
		}
		return &craft{Exec: e, t: t}
	}
	// Boot's Fill was not OK: its context counts as written.
	x := start(0)
	x.in.Flips = all(0, 1, 2)
	x.run(1)
	if x.Memory().Good() != 0 {
		t.Error("written, though it does not differ from Boot's")
	}
	x.do(128, 3, 6)
	if x.memorySeq() != 1 {
		t.Error(x.memorySeq())
	}
	// A Begin was not OK: it is tried again.
	x = start(0)
	x.do(128, 3, 6)
	x.in.Flips = all(0, 1, 2)
	x.run(1)
	if x.memorySeq() != 1 {
		t.Error(x.memorySeq())
	}
	// A Fill after a Scrub was not OK: it counts.
	x = start(2)
	x.noted()
	x.do(128, 3, 6)
	x.in.Flips = all(1, 2)
	x.runs("6/3/0", "")
	if x.Memory().Good() != bits.Of(0) {
		t.Error(x.Memory().Good())
	}
	x.in.Flips = all(0)
	x.runs("", "")
	if x.Memory().Good() != 0 {
		t.Error("written, though it does not differ from the Fill's")
	}
	x.runs("6/3/0", "")
	if x.memorySeq() != 1 || x.Context().Failed != bits.Of(6, 7) {
		t.Error(x.memorySeq(), x.Context())
	}
}

// TestFlips: of copies and bytes that exist, and that do not.
func TestFlips(t *testing.T) {
	x := settled(t, config())
	before := x.Memory().Copies()
	size := len(before[0])
	if size != 29 {
		t.Fatal(size)
	}
	for _, f := range []exec.Flip{
		{Copy: -1}, {Copy: 3}, {Copy: math.MaxInt}, {Copy: math.MinInt}, {At: -1}, {At: size}, {Copy: 1, At: size}, {Copy: 2, At: math.MaxInt}, {Copy: 2, At: math.MinInt}, {Copy: 2, At: 1 << 32},
	} {
		f.Mask = 255
		x.in.Flips = []exec.Flip{f}
		x.run(1)
		if !same3(x.Memory().Copies(), before) {
			t.Fatal(f)
		}
	}
	// All in one cycle, in their order, also behind one that is ignored.
	x.in.Flips = []exec.Flip{{Copy: 3, At: 0, Mask: 1}, {Copy: 0, At: 0, Mask: 1}, {Copy: 1, At: 28, Mask: 128}, {Copy: 2, At: 7, Mask: 0}, {Copy: 0, At: 0, Mask: 3}}
	x.run(1)
	before[0][0] ^= 2
	before[1][28] ^= 128
	if !same3(x.Memory().Copies(), before) {
		t.Error(x.Memory().Copies())
	}
	// Never scrubbed, they stay so; nothing is noted.
	x.noted()
	x.run(600)
	x.is("", "")
	if !same3(x.Memory().Copies(), before) {
		t.Error(x.Memory().Copies())
	}
	x.in.Flips = []exec.Flip{{Copy: 1, At: 28, Mask: 128}, {Copy: 0, At: 0, Mask: 2}}
	x.run(1)
	if x.memorySeq() != 2 {
		t.Error(x.memorySeq())
	}
}

func same3(a, b [][]byte) bool { return slices.EqualFunc(a, b, slices.Equal) }

// TestScrub: in which cycles, and what is told of it.
func TestScrub(t *testing.T) {
	kinds := []struct {
		flips []exec.Flip
		told  string
	}{
		{all(), ""}, {all(0), "7/0/1"}, {all(1), "7/0/1"}, {all(2), "7/0/1"}, {all(1, 1), ""}, {[]exec.Flip{{Copy: 2, At: 3}}, ""},
		{all(0, 2), "6/3/0"}, {all(0, 1), "6/3/0"}, {all(1, 2), "6/3/0"}, {all(0, 1, 2), "6/3/0"},
	}
	for _, scrub := range []int{1, 2, 3, 5, 255} {
		x := settled(t, with(func(c *exec.Config) { c.Scrub = uint8(scrub) }))
		x.noted()
		for _, kind := range kinds {
			for _, at := range []int{0, 1, 2, 3, 254} {
				if at >= scrub {
					continue
				}
				for int(x.Time())%scrub != at {
					x.runs("", "")
				}
				before := x.memorySeq()
				x.in.Flips = kind.flips
				for x.run(1); int(x.Time())%scrub != 0; x.run(1) {
					x.is("", "")
				}
				x.is(kind.told, "")
				// A repair keeps the number; a Fill has the next of what is left.
				after := x.memorySeq()
				if kind.told != "6/3/0" && after != before || len(kind.flips) == 3 && after != 1 || len(kind.flips) == 2 && kind.told != "" && after != before+1 {
					t.Fatal(kind, before, after)
				}
				if t.Failed() {
					t.FailNow()
				}
			}
		}
	}
}

// TestScrubTwo: how many copies were repaired, where more than one differs.
func TestScrubTwo(t *testing.T) {
	x := settled(t, with(func(c *exec.Config) { c.Scrub = 1 }))
	x.noted()
	x.Memory().Begin(x.Context().Bytes())
	x.Memory().Reset()
	x.runs("7/0/2", "")
	x.runs("", "")
}

// TestScrubFillsContext: what is filled is the context as it is, with the
// present mode, and not what the memory has left.
func TestScrubFillsContext(t *testing.T) {
	x := settled(t, with(func(c *exec.Config) { c.Scrub = 3 }))
	x.in.Params[3] = 200
	x.do(128, 1, api.Detumble)
	x.do(128, 3, 7)
	x.run(2)
	x.noted()
	x.in.Flips = all(0, 1)
	x.runs("6/3/0", "")
	if c := x.wrote(); c.Mode != api.Detumble || c.Failed != bits.Of(7) || c.Chain != [6]int8{0, 2, 5, -1, -1, -1} {
		t.Error(c)
	}
	// It counts as written.
	seq := x.memorySeq()
	x.run(2)
	if x.memorySeq() != seq {
		t.Error(x.memorySeq(), seq)
	}
}
