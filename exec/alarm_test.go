package exec_test

import (
	"fmt"
	"slices"
	"strings"
	"testing"

	"aerie/action"
	"aerie/api"
	"aerie/bits"
	"aerie/check"
	"aerie/exec"
	"aerie/monitor"
	"aerie/strap"
)

// TestUnitLost: step 2: an acknowledgement just in time, and one too late.
func TestUnitLost(t *testing.T) {
	for _, wait := range []uint8{0, 1, 2, 7, 255} {
		c := with(func(c *exec.Config) { c.Units[2].Wait = wait })
		for _, late := range []int{0, 1} {
			x := fly(t, c)
			x.run(1)
			x.in.Acks = every.Without(2)
			for range int(wait) + late {
				x.is("", x.orders())
				x.run(1)
			}
			if late == 1 {
				// It has failed, the switch-over is given up, and another begins.
				x.is("1/3/2", "-0 -5 +0 +3 +5")
				if x.Context().Failed != bits.Of(2) {
					t.Error(x.Context())
				}
				continue
			}
			x.in.Acks = every
			x.run(3)
			x.is("8/0/0", "")
			x.on("0 2 5 - - -", "0 2 5 - - -")
		}
	}
	// Several in one cycle, in increasing order, and units beyond Units.
	x := settled(t, with(func(c *exec.Config) { c.Units = rules(7, 0, 0) }))
	x.noted()
	x.in.Acks = every.Without(0, 5, 7, 9, 15)
	x.runs("1/3/0 1/3/5", "+1 +6")
	if x.Context().Failed != bits.Of(0, 5) {
		t.Error(x.Context())
	}
	if l := x.Log(); l[len(l)-1].Time != 5 {
		t.Error(l)
	}
}

// TestUnitUnwell: for as long as Tolerate says, and one cycle longer.
func TestUnitUnwell(t *testing.T) {
	for _, tolerate := range []int{0, 1, 3} {
		x := settled(t, with(func(c *exec.Config) { c.Units = rules(8, 0, uint8(tolerate)) }))
		x.noted()
		for range 3 {
			x.in.Well = every.Without(5)
			for range tolerate {
				x.runs("", "")
			}
			x.in.Well = every
			x.runs("", "")
		}
		x.in.Well = every.Without(5)
		x.in.Acks = every
		for n := range tolerate {
			if n%2 == 1 {
				x.in.Well, x.in.Acks = every, every.Without(5)
			}
			x.runs("", "")
		}
		x.runs("1/3/5", "+6")
	}
}

// monitored is config with these rules, which are all enabled, and no roles.
func monitored(l ...monitor.Rule) exec.Config {
	return with(func(c *exec.Config) { c.Map, c.Mons = strap.Map{}, l })
}

// TestChanges: step 4: what is reported of each change, and in which order.
func TestChanges(t *testing.T) {
	expect := monitor.Rule{Def: check.Def{Kind: check.Expect, Param: 10, Mask: 1}, Repeat: 2, Event: 30, Level: 0, Unit: -1, Enabled: true}
	delta := monitor.Rule{Def: check.Def{Kind: check.Delta, Param: 11, Low: -2, High: 2}, Repeat: 1, Event: 31, Level: 0, Unit: -1, Enabled: true}
	x := fly(t, monitored(limit(9, 20, 0, -1), expect, delta))
	for _, step := range []struct {
		params  [3]int32
		changes []string
		events  string
	}{
		{[3]int32{3, 0, 0}, []string{"12:00000100000003"}, ""},
		{[3]int32{-1, 0, 9}, []string{"12:000102ffffffff", "12:01000100000000", "12:02000300000009"}, "20/2/0 31/2/2 4/3/0"},
		{[3]int32{-1, 1, 9}, []string{"12:02030100000009"}, "4/3/0"},
		{[3]int32{6, 1, 6}, []string{"12:00020300000006", "12:01010400000001", "12:02010200000006"}, "20/2/0 30/2/1 31/2/2 4/3/1"},
		{[3]int32{5, 3, 6}, []string{"12:00030100000005", "12:02020100000006"}, "4/3/1"},
		{[3]int32{5, 0, 8}, nil, "4/3/2"},
		{[3]int32{5, 2, 6}, []string{"12:01040100000002"}, ""},
		{[3]int32{5, 2, 6}, nil, ""},
	} {
		copy(x.in.Params[9:], step.params[:])
		x.run(1)
		if got := x.service(12); !slices.Equal(got, step.changes) {
			t.Errorf("cycle %d: %v, want %v", x.Time(), got, step.changes)
		}
		x.is(step.events, "")
	}
	// A change's report is ahead of its event, and that of the next change.
	x = fly(t, monitored(limit(9, 20, 0, -1), limit(9, 21, 0, -1)))
	x.in.Params[9] = 6
	x.run(1)
	x.wants("reports", x.kinds(), "12,12 5,3 12,12 5,3 5,4")
	if got := x.service(5)[0]; got != "3:14"+"00000001"+"00000001"+"00000000" {
		t.Error(got)
	}
}

// TestKinds: what follows from each kind of row.
func TestKinds(t *testing.T) {
	for _, x := range []struct {
		row    action.Row
		events string
		orders string
		failed bits.Set
	}{
		{action.Row{Event: 20, Kind: action.Nothing, Arg: 2}, "20/2/0", "", 0},
		{action.Row{Event: 20, Kind: action.Report, Arg: 2}, "20/2/0", "", 0},
		{action.Row{Event: 20, Kind: action.Cut, Arg: 2}, "20/2/0", "-2", 0},
		{action.Row{Event: 20, Kind: action.Cut, Arg: 3}, "20/2/0", "", 0},
		{action.Row{Event: 20, Kind: action.Cut, Arg: 15}, "20/2/0", "", 0},
		{action.Row{Event: 20, Kind: action.Fail, Arg: 2}, "20/2/0", "+3", bits.Of(2)},
		{action.Row{Event: 20, Kind: action.Fail, Arg: 7}, "20/2/0", "", bits.Of(7)},
		{action.Row{Event: 20, Kind: action.Fail, Arg: 15}, "20/2/0", "", bits.Of(15)},
		{action.Row{Event: 20, Kind: action.Turn, Arg: 2}, "20/2/0 4/3/1", "+3", bits.Of(2)},
		{action.Row{Event: 20, Kind: action.Turn, Arg: 0}, "20/2/0 4/3/1", "+1", bits.Of(0)},
		{action.Row{Event: 20, Kind: action.Turn, Arg: 15}, "20/2/0 4/3/1", "", bits.Of(15)},
		{action.Row{Event: 20, Kind: action.GoSafe, Arg: 2}, "20/2/0 4/3/2 5/1/0", "", 0},
		// The rows of other events, also of those that the executive notes.
		{action.Row{Event: 21, Kind: action.Fail, Arg: 2}, "20/2/0", "", 0},
		{action.Row{Event: 12, Kind: action.Fail, Arg: 2}, "20/2/0", "", 0},
		{action.Row{Event: 0, Kind: action.Fail, Arg: 2}, "20/2/0", "", 0},
	} {
		r := limit(9, 20, 0, -1)
		c := with(func(c *exec.Config) {
			c.Mons = []monitor.Rule{r}
			c.Acts = []action.Row{x.row}
			c.Acts[0].Enabled = true
		})
		e := settled(t, c)
		e.in.Params[3] = 200
		e.do(128, 1, api.Detumble)
		e.do(128, 7, 0) // its own alarm does not count here
		e.noted()
		e.in.Params[9] = 6
		e.runs(x.events, x.orders)
		if e.Context().Failed != x.failed {
			t.Error(x.row, e.Context().Failed.Text())
		}
		// It is done once: while the rule stays violated, and when it is within
		// again, nothing follows.
		e.run(5)
		e.noted()
		e.do(128, 2, 2)
		e.do(128, 2, 0)
		e.run(9)
		failed := e.Context().Failed
		e.noted()
		e.runs("", "")
		e.in.Params[9] = 5
		e.runs("", "")
		if e.Context().Failed != failed || failed.Has(2) || failed.Has(0) {
			t.Error(x.row, failed.Text(), e.Context().Failed.Text())
		}
		// When it is violated again, it is done again.
		e.in.Params[9] = 6
		e.run(1)
		if got := e.noted(); !strings.HasPrefix(got, "20/2/0") || !x.failed.Within(e.Context().Failed) {
			t.Error(x.row, got, e.Context().Failed.Text())
		}
	}
}

// TestEventsOfOthers: the action table has no say in events that no rule has.
func TestEventsOfOthers(t *testing.T) {
	var l []action.Row
	for event := uint8(1); event <= 11; event++ {
		l = append(l, action.Row{Event: event, Kind: action.Fail, Arg: 15, Enabled: true})
	}
	x := settled(t, with(func(c *exec.Config) { c.Acts, c.Scrub = l, 1 }))
	x.in.Watchdog, x.in.Hardware = true, true
	x.in.Params[3] = 200
	x.in.Acks = every.Without(5)
	x.in.Flips = all(1)
	x.do(128, 1, 1)
	x.in.Flips = all(1, 2)
	x.do(128, 4, 0)
	x.do(128, 4, 1)
	x.run(5)
	x.in.Reset = 1
	x.run(1)
	if x.Context().Failed.Has(15) {
		t.Error(x.Context())
	}
	// An event of a rule may be any.
	for event := range 256 {
		c := monitored(limit(9, uint8(event), 0, -1))
		c.Acts = []action.Row{{Event: uint8(event), Kind: action.Fail, Arg: 15, Enabled: true}}
		x := fly(t, c)
		x.in.Params[9] = 6
		x.runs(fmt.Sprintf("%d/2/0 4/3/0", event), "")
		if x.Context().Failed != bits.Of(15) {
			t.Error(event, x.Context())
		}
	}
}

// TestActionsInTurn: each change's action behind the change, in the order of
// the rules.
func TestActionsInTurn(t *testing.T) {
	c := with(func(c *exec.Config) {
		c.Mons = []monitor.Rule{limit(9, 22, 0, -1), limit(9, 20, 0, -1), limit(9, 21, 0, -1), limit(9, 22, 0, -1)}
		c.Acts = []action.Row{{Event: 20, Kind: action.Cut, Arg: 0, Enabled: true}, {Event: 21, Kind: action.Cut, Arg: 2, Enabled: true}, {Event: 22, Kind: action.Cut, Arg: 5, Enabled: true}}
	})
	x := settled(t, c)
	x.noted()
	x.in.Params[9] = 6
	x.runs("22/2/0 20/2/1 21/2/2 22/2/3 4/3/0", "-5 -0 -2")
}

// TestPicked: which alarm it is, of those of step 4, of the rules that are
// violated, of the watchdog, and of the hardware.
func TestPicked(t *testing.T) {
	turn := func(arg uint8) []action.Row {
		return []action.Row{{Event: 20, Kind: action.Turn, Arg: arg, Enabled: true}}
	}
	safe := []action.Row{{Event: 20, Kind: action.GoSafe, Enabled: true}}
	for i, x := range []struct {
		rules              []monitor.Rule
		acts               []action.Row
		watchdog, hardware bool
		inhibit            []byte
		level              int // that acts, -1: none
		failed             bits.Set
	}{
		{nil, nil, false, false, nil, -1, 0},
		{[]monitor.Rule{limit(9, 20, 0, 7)}, nil, false, false, nil, 0, 0},
		{[]monitor.Rule{limit(9, 20, 1, 7)}, nil, false, false, nil, 1, bits.Of(7)},
		{[]monitor.Rule{limit(9, 20, 2, 7)}, nil, false, false, nil, 2, 0},
		{[]monitor.Rule{limit(9, 20, 3, 7)}, nil, false, false, nil, 3, 0},
		{[]monitor.Rule{limit(9, 20, 4, 7)}, nil, false, false, nil, 4, 0},
		// Level 1: units of all kinds.
		{[]monitor.Rule{limit(9, 20, 1, -1)}, nil, false, false, nil, 1, 0},
		{[]monitor.Rule{limit(9, 20, 1, 0)}, nil, false, false, nil, 1, bits.Of(0)},
		{[]monitor.Rule{limit(9, 20, 1, 8)}, nil, false, false, nil, 1, bits.Of(8)},
		{[]monitor.Rule{limit(9, 20, 1, 15)}, nil, false, false, nil, 1, bits.Of(15)},
		// The first of the greatest level: the table's ahead of the rules'.
		{[]monitor.Rule{limit(9, 20, 1, 7), limit(9, 21, 1, 6)}, nil, false, false, nil, 1, bits.Of(7)},
		{[]monitor.Rule{limit(9, 20, 0, 7), limit(9, 21, 1, 6)}, nil, false, false, nil, 1, bits.Of(6)},
		{[]monitor.Rule{limit(9, 20, 1, 7), limit(9, 21, 0, 6)}, nil, false, false, nil, 1, bits.Of(7)},
		{[]monitor.Rule{limit(9, 20, 1, 7)}, turn(3), false, false, nil, 1, bits.Of(3)},
		{[]monitor.Rule{limit(9, 21, 1, 7), limit(9, 20, 1, 6)}, turn(3), false, false, nil, 1, bits.Of(3)},
		{[]monitor.Rule{limit(9, 20, 0, 7)}, turn(9), false, false, nil, 1, bits.Of(9)},
		{[]monitor.Rule{limit(9, 20, 2, 7)}, turn(3), false, false, nil, 2, 0},
		{[]monitor.Rule{limit(9, 20, 1, 7)}, safe, false, false, nil, 2, 0},
		{[]monitor.Rule{limit(9, 20, 3, 7)}, safe, false, false, nil, 3, 0},
		// The watchdog, and the hardware.
		{nil, nil, true, false, nil, 3, 0}, {nil, nil, false, true, nil, 4, 0}, {nil, nil, true, true, nil, 4, 0},
		{[]monitor.Rule{limit(9, 20, 4, 7)}, nil, true, false, nil, 4, 0},
		{[]monitor.Rule{limit(9, 20, 1, 7)}, nil, true, false, nil, 3, 0},
		{[]monitor.Rule{limit(9, 20, 1, 7)}, turn(6), false, true, nil, 4, 0},
		// Levels that are inhibited.
		{[]monitor.Rule{limit(9, 20, 0, 7)}, nil, false, false, []byte{0}, -1, 0},
		{[]monitor.Rule{limit(9, 20, 1, 7)}, nil, false, false, []byte{1}, -1, 0},
		{[]monitor.Rule{limit(9, 20, 4, 7)}, nil, false, false, []byte{4}, -1, 0},
		{[]monitor.Rule{limit(9, 20, 1, 7)}, nil, true, false, []byte{3}, 1, bits.Of(7)},
		{[]monitor.Rule{limit(9, 20, 1, 7)}, nil, true, true, []byte{4, 3}, 1, bits.Of(7)},
		{[]monitor.Rule{limit(9, 20, 1, 7)}, nil, true, true, []byte{4}, 3, 0},
		{nil, nil, true, true, []byte{3}, 4, 0}, {nil, nil, true, true, []byte{4}, 3, 0}, {nil, nil, true, true, []byte{4, 3}, -1, 0},
		{[]monitor.Rule{limit(9, 20, 0, 7)}, turn(6), false, false, []byte{1}, 0, 0},
		{[]monitor.Rule{limit(9, 20, 0, 7)}, safe, false, false, []byte{2}, 0, 0},
		{[]monitor.Rule{limit(9, 20, 2, 7)}, nil, true, true, []byte{0, 1, 2, 3, 4}, -1, 0},
		// Rules that are not enabled, or not violated, are none.
		{[]monitor.Rule{{Def: check.Def{Param: 9, High: 5}, Repeat: 1, Level: 4, Unit: 7}, limit(9, 21, 1, 6)}, nil, false, false, nil, 1, bits.Of(6)},
		{[]monitor.Rule{limit(10, 20, 4, 7), limit(9, 21, 1, 6)}, nil, false, false, nil, 1, bits.Of(6)},
	} {
		c := monitored(x.rules...)
		c.Acts = x.acts
		e := fly(t, c)
		e.in.Params[3] = 200
		for _, level := range x.inhibit {
			e.do(128, 7, level)
		}
		e.do(128, 1, api.Detumble)
		e.noted()
		e.in.Params[9] = 6
		e.in.Watchdog, e.in.Hardware = x.watchdog, x.hardware
		e.run(1)
		want := ""
		for rule, r := range x.rules {
			if r.Enabled && r.Def.Param == 9 {
				want += fmt.Sprintf("%d/2/%d ", r.Event, rule)
			}
		}
		if x.level >= 0 {
			want += fmt.Sprintf("4/3/%d ", x.level)
		}
		mode := byte(api.Detumble)
		if x.level >= 2 {
			want += "5/1/0 "
			mode = api.Safe
		}
		e.is(want[:max(len(want)-1, 0)], "")
		if e.Context().Failed != x.failed || e.out.Mode != mode {
			t.Errorf("%d: failed %s, mode %d", i, e.Context().Failed.Text(), e.out.Mode)
		}
	}
}

// TestLadder: level by level, while an alarm lasts, and from the first one
// again when it was gone.
func TestLadder(t *testing.T) {
	c := monitored(limit(9, 20, 0, 7))
	c.Ladder = [5]uint8{2, 1, 3, 0, 1}
	x := fly(t, c)
	x.in.Params[9] = 6
	var got []int
	levels := func(n int) []int {
		got = nil
		for range n {
			x.run(1)
			last := x.Log()[len(x.Log())-1]
			if last.Event != 4 || last.Time != x.Time() {
				last.Data = 9
			}
			got = append(got, int(last.Data))
		}
		return got
	}
	if want := []int{0, 0, 1, 2, 2, 2, 4, 4, 4, 4}; !slices.Equal(levels(10), want) {
		t.Error(got)
	}
	// Gone for a cycle; or inhibited for one.
	x.in.Params[9] = 5
	x.run(1)
	x.in.Params[9] = 6
	if want := []int{0, 0, 1, 2}; !slices.Equal(levels(4), want) {
		t.Error(got)
	}
	x.do(128, 7, 0)
	x.acked(0, 128, 8, 0)
	if want := []int{0, 0, 1}; !slices.Equal(levels(3), want) {
		t.Error(got)
	}
	// Levels that are inhibited are passed over.
	x.acked(0, 128, 7, 2)
	if want := []int{4, 4}; !slices.Equal(levels(2), want) {
		t.Error(got)
	}
	x.acked(0, 128, 7, 4)
	if want := []int{3, 3}; !slices.Equal(levels(2), want) {
		t.Error(got)
	}
	x.acked(0, 128, 8, 2)
	if want := []int{2, 2, 2, 3}; !slices.Equal(levels(4), want) {
		t.Error(got)
	}
	x.acked(0, 128, 7, 2)
	x.acked(0, 128, 7, 3)
	x.acked(0, 128, 7, 1)
	if want := []int{0, 0, 0}; !slices.Equal(levels(3), want) {
		t.Error(got)
	}
	// Without limits: the greatest level that is allowed, for ever.
	c.Ladder = [5]uint8{}
	x = fly(t, c)
	x.in.Params[9] = 6
	if want := slices.Repeat([]int{4}, 300); !slices.Equal(levels(300), want) {
		t.Error(got)
	}
	// The greatest limits.
	c.Ladder = [5]uint8{255, 255, 255, 255, 255}
	x = fly(t, c)
	x.in.Params[9] = 6
	if want := append(make([]int, 255), 1, 1); !slices.Equal(levels(257), want) {
		t.Error(got)
	}
	// An alarm of another level in between does not make it Calm.
	c.Ladder = [5]uint8{2, 2, 2, 2, 2}
	x = fly(t, c)
	x.in.Params[9] = 6
	x.run(1)
	x.in.Watchdog = true
	if want := []int{3, 0, 1}; !slices.Equal(levels(3), want) {
		t.Error(got)
	}
}

// TestLevelUnit: level 0 with units that have power, that have none, that have
// failed, and that are inhibited.
func TestLevelUnit(t *testing.T) {
	for _, x := range []struct {
		unit   int
		orders string
	}{{0, "-0 +0"}, {2, "-2 +2"}, {5, "-5 +5"}, {1, ""}, {7, ""}, {8, ""}, {15, ""}, {-1, ""}} {
		e := settled(t, with(func(c *exec.Config) { c.Mons = []monitor.Rule{limit(9, 20, 0, x.unit)} }))
		e.noted()
		e.in.Params[9] = 6
		e.runs("20/2/0 4/3/0", x.orders)
		if e.Context().Failed != 0 || e.Busy() {
			t.Error(e.Context())
		}
		e.in.Params[9] = 0
		e.runs("", "")
	}
	// A unit that is starting has power, too.
	x := settled(t, with(func(c *exec.Config) { c.Mons = []monitor.Rule{limit(9, 20, 0, 2)} }))
	x.noted()
	x.in.Params[9] = 6
	x.run(1)
	x.in.Acks = every.Without(2)
	x.runs("20/2/0 4/3/0 4/3/0", "-2 +2")
	// Power that is ordered off for a unit that has failed, or is inhibited,
	// isn't ordered on again, and the next chain is begun.
	for _, sub := range []byte{3, 4} {
		x = settled(t, with(func(c *exec.Config) { c.Mons = []monitor.Rule{limit(9, 20, 0, 2)} }))
		x.noted()
		x.in.Params[9] = 6
		x.acked(0, 128, sub, 2)
		x.runs("20/2/0 4/3/0", "-2 +3")
	}
	// Cleared and freed again, it is.
	for _, subs := range [][2]byte{{3, 2}, {4, 5}} {
		x = settled(t, with(func(c *exec.Config) { c.Mons = []monitor.Rule{limit(9, 20, 0, 2)} }))
		x.noted()
		x.in.Params[9] = 6
		x.acked(0, 128, subs[0], 2)
		x.acked(0, 128, subs[1], 2)
		x.runs("20/2/0 4/3/0", "-2 +2")
	}
	// A unit that is lost has none.
	x = settled(t, with(func(c *exec.Config) {
		c.Units = rules(8, 0, 0)
		c.Mons = []monitor.Rule{limit(9, 20, 0, 2)}
	}))
	x.noted()
	x.in.Acks = every.Without(2)
	x.in.Params[9] = 6
	x.acked(0, 128, 2, 2)
	x.runs("1/3/2 20/2/0 4/3/0", "")
}

// TestBusyLevels: while a switch-over is in progress, levels 0 and 1 do not
// act, and the ladder stays as it is; the others do.
func TestBusyLevels(t *testing.T) {
	for level := range uint8(5) {
		for _, u := range []int{-1, 0, 7} {
			c := with(func(c *exec.Config) {
				c.Mons = []monitor.Rule{limit(9, 20, level, u)}
				c.Ladder = [5]uint8{1, 1, 1, 1, 1}
			})
			x := fly(t, c)
			x.run(1)
			x.in.Params[9] = 6
			x.run(1)
			want := []string{"20/2/0", "20/2/0", "20/2/0 4/3/2", "20/2/0 4/3/3", "20/2/0 4/3/4"}[level]
			orders := ""
			if level >= 3 {
				// It is stopped, and begins anew.
				orders = "-0 -2 -5 +0 +2 +5"
			}
			x.is(want, orders)
			if level < 2 {
				// Two more cycles, in the second of which it is done. Then it acts,
				// as for the first time.
				x.runs("", "")
				x.runs("8/0/0", "")
				x.run(1)
				x.wants("events", x.noted(), fmt.Sprintf("4/3/%d", level))
			}
		}
	}
	// Busy, with an alarm that is picked below 2 and a ladder that would go up
	// to 2; and the other way round.
	c := with(func(c *exec.Config) {
		c.Mons = []monitor.Rule{limit(9, 20, 1, -1), limit(10, 21, 2, -1)}
		c.Ladder = [5]uint8{0, 0, 9, 9, 9}
	})
	x := fly(t, c)
	x.in.Params[9] = 6
	x.runs("20/2/0 4/3/2", "+0 +2 +5")
	x.runs("", "")
	x.in.Params[10] = 6
	x.runs("21/2/1 4/3/2", "")
	x.acked(0, 128, 7, 2)
	x.runs("8/0/0", "")
	x.runs("4/3/3", "")
	// Nothing makes it Calm while it is Busy with such an alarm: its count from
	// before is there afterwards; but no alarm at all does.
	for _, gone := range []bool{false, true} {
		x = settled(t, with(func(c *exec.Config) {
			c.Mons = []monitor.Rule{limit(9, 20, 0, 7)}
			c.Ladder = [5]uint8{1, 1, 1, 1, 1}
		}))
		x.noted()
		x.in.Params[9] = 6
		x.runs("20/2/0 4/3/0", "")
		x.acked(0, 128, 4, 2)
		x.runs("4/3/1", "+3")
		x.run(2)
		if gone {
			x.do(128, 7, 0)
			x.acked(0, 128, 8, 0)
		} else {
			x.run(1)
		}
		x.noted()
		x.run(1)
		x.wants("events", x.noted(), map[bool]string{false: "4/3/2", true: "4/3/0"}[gone])
	}
}

// TestStopped: levels 3 and 4 stop a switch-over: what has power then and is
// not in the active chain is powered off. Level 2 does not.
func TestStopped(t *testing.T) {
	// before are the cycles of the switch-over from 0 2 5 to 0 3 5 that are over.
	for before, orders := range []string{"-3 +3", "-3 +3", "-2", ""} {
		for _, hardware := range []bool{false, true} {
			x := settled(t, config())
			x.do(128, 3, 2)
			x.run(before)
			x.noted()
			x.in.Watchdog, x.in.Hardware = !hardware, hardware
			x.run(1)
			x.wants("orders", x.orders(), orders)
			level := 3
			if hardware {
				level = 4
			}
			x.wants("events", x.noted(), fmt.Sprintf("4/3/%d", level))
			if before == 2 {
				// To was active already, and stays so; the context does not have it.
				x.on("0 3 5 - - -", "0 2 5 - - -")
			}
		}
		x := settled(t, with(func(c *exec.Config) { c.Mons = []monitor.Rule{limit(9, 20, 2, -1)} }))
		x.do(128, 3, 2)
		x.run(before)
		x.noted()
		x.in.Params[9] = 6
		x.run(1)
		x.wants("events", x.noted(), []string{"20/2/0 4/3/2", "20/2/0 4/3/2", "20/2/0 4/3/2 8/0/0", "20/2/0 4/3/2"}[before])
		x.wants("orders", x.orders(), []string{"", "", "-2", ""}[before])
	}
	// One that is not in progress is not stopped: what has power keeps it.
	x := settled(t, config())
	x.in.Watchdog = true
	x.noted()
	x.runs("4/3/3", "")
}
