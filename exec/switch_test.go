package exec_test

import (
	"fmt"
	"testing"

	"aerie/action"
	"aerie/api"
	"aerie/bits"
	"aerie/exec"
	"aerie/monitor"
	"aerie/retry"
	"aerie/strap"
	"aerie/unit"
)

// TestFirstChain: phase by phase; from no chain nothing is spent.
func TestFirstChain(t *testing.T) {
	x := fly(t, config())
	for n, step := range []struct {
		events, orders, active, taken string
		busy                          bool
	}{
		{"", "+0 +2 +5", "- - - - - -", "- - - - - -", true}, {"", "", "- - - - - -", "- - - - - -", true},
		{"", "", "0 2 5 - - -", "- - - - - -", true}, {"8/0/0", "", "0 2 5 - - -", "0 2 5 - - -", false},
		{"", "", "0 2 5 - - -", "0 2 5 - - -", false},
	} {
		x.runs(step.events, step.orders)
		x.on(step.active, step.taken)
		if x.Busy() != step.busy {
			t.Error(n, x.Busy())
		}
	}
	if c := x.Context(); c.Retry != [6]uint8{} || c.Exhausted {
		t.Error(c)
	}
	if l := x.Log(); l[0] != entry(1, 4, 8, 0, 0) {
		t.Error(l)
	}
	// Acknowledgements that come late keep it Powering, within the bound.
	x = fly(t, config())
	x.in.Acks = every.Without(5)
	x.run(3)
	x.in.Acks = every
	x.run(1)
	x.on("- - - - - -", "- - - - - -")
	x.run(1)
	x.on("0 2 5 - - -", "- - - - - -")
	x.run(1)
	x.is("8/0/0", "")
}

// TestSwitchOver: from one chain to another one, as a unit fails, or is
// inhibited, in each role.
func TestSwitchOver(t *testing.T) {
	for _, sub := range []byte{3, 4} {
		for _, step := range []struct {
			unit  byte
			next  byte
			chain string
			role  int
		}{{0, 1, "1 2 5 - - -", 0}, {2, 3, "0 3 5 - - -", 1}, {5, 6, "0 2 6 - - -", 2}} {
			x := settled(t, config())
			x.noted()
			x.acked(0, 128, sub, step.unit)
			x.runs("", fmt.Sprintf("+%d", step.next))
			x.on("0 2 5 - - -", "0 2 5 - - -")
			spent := [6]uint8{}
			spent[step.role] = 1
			if x.Context().Retry != spent || !x.Busy() {
				t.Error(x.Context())
			}
			x.runs("", "")
			x.on("0 2 5 - - -", "0 2 5 - - -")
			x.runs("", "")
			x.on(step.chain, "0 2 5 - - -")
			x.runs("8/0/0", fmt.Sprintf("-%d", step.unit))
			x.on(step.chain, step.chain)
			x.run(9)
			x.is("", "")
			if c := x.Context(); c.Retry != spent || c.Exhausted || c != x.wrote() {
				t.Error(c)
			}
			// The unit may be used again: there is no reason to go back.
			x.do(128, 2, step.unit)
			x.do(128, 5, step.unit)
			x.run(9)
			x.is("", "")
			x.on(step.chain, step.chain)
		}
	}
	// A unit of no use changes nothing.
	x := settled(t, config())
	x.noted()
	for _, u := range []byte{1, 3, 4, 6, 7} {
		x.do(128, 3, u)
		x.do(128, 4, u)
		x.is("", "")
	}
}

// TestSwitchOverLinks: roles that differ along with the one that has failed;
// each of them is spent.
func TestSwitchOverLinks(t *testing.T) {
	c := config()
	c.Map.Links[1] = bits.Of(4)
	c.Map.Links[4] = bits.Of(6)
	x := settled(t, c)
	x.noted()
	x.acked(0, 128, 3, 0)
	x.runs("", "+1 +4 +6")
	if x.Context().Retry != [6]uint8{1, 1, 1} {
		t.Error(x.Context())
	}
	x.run(3)
	x.is("8/0/0", "-0 -2 -5")
	// Back again, by the least of the nearest.
	x.acked(0, 128, 2, 0)
	x.acked(0, 128, 4, 4)
	x.runs("", "+0 +2")
	x.on("1 4 6 - - -", "1 4 6 - - -")
	if x.Context().Retry != [6]uint8{2, 2, 1} {
		t.Error(x.Context())
	}
}

// TestSpent: roles that may not be spent: as if no chain were left.
func TestSpent(t *testing.T) {
	for _, x := range []struct {
		limits retry.Limits
		fail   []byte
		ok     bool
	}{
		{retry.Limits{1, 0, 0}, []byte{0}, true}, {retry.Limits{0, 9, 9, 9, 9, 9}, []byte{0}, false},
		{retry.Limits{0, 1, 0}, []byte{2}, true}, {retry.Limits{9, 0, 9, 9, 9, 9}, []byte{2}, false},
		{retry.Limits{1, 1, 0}, []byte{0, 2}, true}, {retry.Limits{1, 0, 0}, []byte{0, 2}, false}, {retry.Limits{0, 1, 0}, []byte{0, 2}, false},
		{retry.Limits{1, 1, 1}, []byte{0, 2, 5}, true}, {retry.Limits{1, 1, 0}, []byte{0, 2, 5}, false},
	} {
		e := settled(t, with(func(c *exec.Config) { c.Limits = x.limits }))
		e.in.Params[3] = 200
		e.do(128, 1, api.Detumble)
		e.noted()
		for _, u := range x.fail {
			e.acked(0, 128, 3, u)
		}
		e.run(1)
		c := e.Context()
		if x.ok {
			e.wants("events", e.noted(), "")
			if c.Exhausted || !e.Busy() || e.Mode() != api.Detumble {
				t.Error(x, c)
			}
			continue
		}
		e.is("9/3/0 5/1/0", "")
		e.on("0 2 5 - - -", "0 2 5 - - -")
		if !c.Exhausted || c.Retry != [6]uint8{} || e.Busy() || e.Mode() != api.Safe {
			t.Error(x, c)
		}
	}
	// Up to the limit, and no more.
	x := settled(t, with(func(c *exec.Config) { c.Limits = retry.Limits{3, 3, 3} }))
	for n := range 5 {
		x.acked(0, 128, 2, byte(1-n%2))
		x.acked(0, 128, 3, byte(n%2))
		x.run(5)
		if c := x.Context(); int(c.Retry[0]) != min(n+1, 3) || c.Exhausted != (n == 3) || c.Retry[1] != 0 {
			t.Error(n, c)
		}
	}
}

// TestNoneLeft: event 9 once, and safe mode once; nothing while it remains so;
// then one is left again.
func TestNoneLeft(t *testing.T) {
	x := settled(t, config())
	x.in.Params[3] = 200
	x.do(128, 1, api.Detumble)
	x.noted()
	x.acked(0, 128, 3, 5)
	x.acked(0, 128, 4, 6)
	x.runs("9/3/0 5/1/0", "")
	x.on("0 2 5 - - -", "0 2 5 - - -")
	if c := x.Context(); !c.Exhausted || c.Retry != [6]uint8{} || x.Mode() != api.Safe {
		t.Error(c)
	}
	// Safe mode is not requested any more.
	x.do(128, 1, api.Detumble)
	for range 20 {
		x.runs("", "")
	}
	x.do(128, 3, 0)
	x.is("", "")
	if !x.Context().Exhausted || x.Mode() != api.Detumble {
		t.Error(x.Context(), x.Mode())
	}
	// One is left again.
	x.acked(0, 128, 5, 6)
	x.runs("", "+1 +6")
	if c := x.Context(); c.Exhausted || c.Retry != [6]uint8{1, 0, 1} {
		t.Error(c)
	}
	x.run(3)
	x.is("8/0/0", "-0 -5")
	// None again: it is told again.
	x.do(128, 4, 6)
	x.is("9/3/0 5/1/0", "")
	// The active one is left again.
	x.do(128, 5, 6)
	x.is("", "")
	if c := x.Context(); c.Exhausted || x.Busy() {
		t.Error(c)
	}
	x.do(128, 4, 6)
	x.is("9/3/0", "")
	// Over a reset it is kept, and nothing is told.
	x.in.Reset = 1
	x.runs("10/0/1", "")
	x.run(3)
	x.is("", "")
	if !x.Context().Exhausted {
		t.Error(x.Context())
	}
	x.do(128, 5, 6)
	x.is("", "+1 +2 +6")
	if c := x.Context(); c.Exhausted || c.Retry != [6]uint8{1, 0, 1} {
		t.Error(c)
	}
}

// TestNoneAtAll: maps that admit no chain, and one without roles.
func TestNoneAtAll(t *testing.T) {
	nothing := config()
	nothing.Map.Roles[1].Units = 0
	apart := config()
	apart.Map.Links = [16]bits.Set{}
	for _, c := range []exec.Config{nothing, apart} {
		x := fly(t, c)
		x.runs("9/3/0", "")
		x.run(9)
		x.is("", "")
		x.on("- - - - - -", "- - - - - -")
	}
	// Without roles no unit is needed: that chain is active from the start.
	for _, c := range []exec.Config{bare(), with(func(c *exec.Config) { c.Map = strap.Map{} })} {
		x := fly(t, c)
		x.run(9)
		x.is("", "")
		x.on("- - - - - -", "- - - - - -")
		if x.Busy() || x.Context().Exhausted {
			t.Error(x.Context())
		}
	}
}

// TestToTurnsBad: while it is Busy: in each phase it is stopped, and the next
// one begins in the same cycle.
func TestToTurnsBad(t *testing.T) {
	for _, sub := range []byte{3, 4} {
		// From 0 2 5 to 0 3 5.
		for n, want := range []struct{ orders, active, wanted string }{
			{"-3 +4", "0 2 5 - - -", "0 4 5 - - -"}, {"-3 +4", "0 2 5 - - -", "0 4 5 - - -"},
			// 3 is in the active chain: it keeps its power till 4 has taken over.
			{"-2 +4", "0 3 5 - - -", "0 4 5 - - -"},
		} {
			x := settled(t, config())
			x.do(128, 3, 2)
			x.run(n)
			x.noted()
			x.acked(0, 128, sub, 3)
			x.runs("", want.orders)
			x.on(want.active, "0 2 5 - - -")
			if c := x.Context(); c.Retry != [6]uint8{0, 2} || !x.Busy() {
				t.Error(c)
			}
			x.run(3)
			x.wants("events", x.noted(), "8/0/0")
			x.on(want.wanted, want.wanted)
			x.wants("orders", x.orders(), []string{"-2", "-2", "-3"}[n])
		}
		// From, and units of neither, do not count.
		x := settled(t, config())
		x.do(128, 3, 2)
		x.acked(0, 128, sub, 7)
		x.acked(0, 128, sub, 4)
		x.run(1)
		x.on("0 2 5 - - -", "0 2 5 - - -")
		x.run(2)
		x.on("0 3 5 - - -", "0 3 5 - - -")
	}
	// A unit that both have.
	x := settled(t, config())
	x.do(128, 3, 2)
	x.acked(0, 128, 3, 0)
	x.noted()
	x.runs("", "-3 +1 +3")
	if c := x.Context(); c.Retry != [6]uint8{1, 2} {
		t.Error(c)
	}
	// None is left then: it is told, once.
	x = settled(t, config())
	x.do(128, 3, 2)
	x.acked(0, 128, 3, 3)
	x.acked(0, 128, 3, 4)
	x.noted()
	x.runs("9/3/0", "-3")
	x.run(5)
	x.is("", "")
	x.on("0 2 5 - - -", "0 2 5 - - -")
}

// TestPoweringLost: a unit of To that is lost while it is awaited.
func TestPoweringLost(t *testing.T) {
	x := settled(t, with(func(c *exec.Config) { c.Units = rules(8, 1, 0) }))
	x.do(128, 3, 2)
	x.in.Acks = every.Without(3)
	x.noted()
	x.runs("", "")
	x.runs("1/3/3", "+4")
	x.in.Acks = every
	x.run(3)
	x.is("8/0/0", "-2")
	x.on("0 4 5 - - -", "0 4 5 - - -")
	if c := x.Context(); c.Failed != bits.Of(2, 3) || c.Retry != [6]uint8{0, 2} {
		t.Error(c)
	}
}

// TestTurnFailed: what Next says has failed has failed: a unit that is lost,
// and was cleared in the very same cycle.
func TestTurnFailed(t *testing.T) {
	x := settled(t, with(func(c *exec.Config) {
		c.Units = rules(8, 0, 0)
		c.Map.Links[0] = bits.Of(2, 4)
		c.Map.Links[1] = bits.Of(3)
	}))
	x.do(128, 4, 0) // to 1 3 5
	x.in.Acks = every.Without(3)
	x.acked(0, 128, 2, 3)
	x.noted()
	x.runs("1/3/3", "-1 -3")
	x.on("0 2 5 - - -", "0 2 5 - - -")
	if c := x.Context(); c.Failed != bits.Of(3) || x.Busy() {
		t.Error(c)
	}
	// Then none is left, as 1 works with 3 alone.
	x.in.Acks = every
	x.runs("9/3/0", "")
	x.do(128, 5, 0)
	x.is("", "")
	if x.Context().Exhausted {
		t.Error(x.Context())
	}
}

// TestPoweredAlready: Start orders on just what has no power; of To, what From
// has not is powered off when it fails.
func TestPoweredAlready(t *testing.T) {
	// A unit of the active chain was cut off: the chain stays, and it is not
	// ordered on till there is a switch-over.
	x := settled(t, with(func(c *exec.Config) {
		c.Mons = []monitor.Rule{limit(9, 20, 0, -1)}
		c.Acts = []action.Row{{Event: 20, Kind: action.Cut, Arg: 0, Enabled: true}}
	}))
	x.noted()
	x.in.Params[9] = 6
	x.runs("20/2/0 4/3/0", "-0")
	x.in.Params[9] = 0
	x.run(9)
	x.is("", "")
	x.do(128, 3, 2)
	x.is("", "+0 +3")
	// After a Stop what From has is still powered.
	x = settled(t, config())
	x.do(128, 3, 2)
	x.in.Watchdog = true
	x.run(1)
	x.wants("orders", x.orders(), "-3 +3")
}

// TestOtherMap: a restart with another map: roles that do not exist any more
// had a unit, which is spent.
func TestOtherMap(t *testing.T) {
	x := settled(t, config())
	two := with(func(c *exec.Config) { c.Map = linked(bits.Of(0, 1), bits.Of(2, 3, 4)) })
	e, _ := exec.Restart(two, x.Memory())
	y := &craft{Exec: e, t: t, in: exec.Input{Acks: every, Well: every}}
	y.runs("10/0/1", "+0 +2")
	y.run(3)
	y.on("0 2 - - - -", "0 2 - - - -")
	if e.Context().Retry != [6]uint8{0, 0, 1} {
		t.Error(e.Context())
	}
	// And back: a role that had none is not spent.
	e, _ = exec.Restart(config(), e.Memory())
	y = &craft{Exec: e, t: t, in: exec.Input{Acks: every, Well: every}}
	y.runs("10/0/2", "+0 +2 +5")
	if e.Context().Retry != [6]uint8{0, 0, 1} {
		t.Error(e.Context())
	}
	// Units that are not in the map at all.
	e, _ = exec.Restart(config(), held(stored()))
	y = &craft{Exec: e, t: t, in: exec.Input{Acks: every, Well: every}}
	y.acked(0, 128, 4, 2)
	y.run(1)
	y.wants("orders", y.orders(), "+1 +4 +5")
	if e.Context().Retry != [6]uint8{1, 3, 0, 0, 0, 255} {
		t.Error(e.Context())
	}
}

// TestStopThenActive: a stop while Releasing leaves the new chain active; if
// that is the wanted one, nothing more is to be done, and the context keeps the
// one that was taken before.
func TestStopThenActive(t *testing.T) {
	x := settled(t, config())
	x.do(128, 3, 2)
	x.run(2)
	x.in.Hardware = true
	x.run(1)
	x.run(9)
	x.on("0 3 5 - - -", "0 2 5 - - -")
	if x.Busy() {
		t.Error("busy")
	}
	// The old one is wanted when it may be used again: it is near.
	x.do(128, 2, 2)
	x.wants("orders", x.orders(), "+2")
	x.run(3)
	x.on("0 2 5 - - -", "0 2 5 - - -")
	x.wants("orders", x.orders(), "-3")
	if x.Context().Retry != [6]uint8{0, 1} {
		t.Error(x.Context())
	}
}

// TestWithinBound: a switch-over that nothing stops, and all units of which
// acknowledge in time, is done within the turn's bound; and from the failure on
// within Bound.
func TestWithinBound(t *testing.T) {
	draw := draws(3)
	for range 2000 {
		c := config()
		for u := range c.Units {
			c.Units[u] = unit.Rule{Wait: uint8(draw(9)), Tolerate: 255}
		}
		x := fly(t, c)
		starts := map[int]int{}
		steps := func(n int) int {
			for k := 1; k <= n; k++ {
				x.in.Acks = every
				for u, since := range starts {
					if int(x.Time())-since < int(c.Units[u].Wait) && draw(4) > 0 {
						x.in.Acks = x.in.Acks.Without(u)
					}
				}
				x.run(1)
				for _, o := range x.out.Orders {
					if o.On {
						starts[o.Unit] = int(x.Time())
					}
				}
				if !x.Busy() {
					return k
				}
			}
			t.Fatalf("not done within %d cycles: %v", n, c.Units)
			return 0
		}
		steps(c.Bound())
		x.do(128, 3, byte(draw(7)))
		if x.Busy() {
			steps(c.Bound() - 1)
		}
		if x.Chain() != strap.Chain(x.Context().Chain) || x.Chain().Units().And(x.Context().Failed) != 0 {
			t.Fatal(x.Chain(), x.Context())
		}
	}
}
