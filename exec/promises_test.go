package exec_test

import (
	"slices"
	"testing"

	"aerie/api"
	"aerie/bits"
	"aerie/context"
	"aerie/exec"
	"aerie/guard"
	"aerie/packet"
	"aerie/plant"
	"aerie/pus"
	"aerie/strap"
	"aerie/verify"
)

// accepted are the commands among these that are.
func accepted(c exec.Config, tcs [][]byte) []pus.Command {
	var l []pus.Command
	for _, tc := range tcs {
		if v := verify.Judge(tc, c.Apid, exec.Table()); v.Code == 0 {
			l = append(l, v.Command)
		}
	}
	return l
}

// flight is a long run, through resets, restarts and all else, in which the
// memory is never so spoilt that its content is lost.
func flight(t *testing.T, seed uint32, cycles int, look func(c exec.Config, e *exec.Exec, before context.Context, in exec.Input, out exec.Output)) {
	t.Helper()
	draw := draws(seed)
	c := anyConfig(draw)
	e, err := exec.New(c)
	if err != api.OK {
		t.Fatal(err)
	}
	w := clear(draw, c)
	for range cycles {
		in := w.next()
		in.Flips = nil
		if e.Memory().Good() == 7 && draw(3) == 0 {
			in.Flips = []exec.Flip{{Copy: draw(3), At: draw(29), Mask: byte(draw(256))}}
		}
		before := e.Context()
		out := e.Cycle(in)
		look(c, e, before, in, out)
		if draw(100) == 0 {
			m := guard.Of(e.Memory().Copies()...)
			if e, err = exec.Restart(c, m); err != api.OK {
				t.Fatal(err)
			}
		}
	}
}

// TestFailedNotUsed: P5. No order powers on a unit that has failed, and no chain
// is taken that has one, over resets too, till the ground clears it.
func TestFailedNotUsed(t *testing.T) {
	ordered, taken, failures := 0, 0, 0
	for seed := range uint32(250) {
		var failed bits.Set
		flight(t, seed, 500, func(c exec.Config, e *exec.Exec, before context.Context, in exec.Input, out exec.Output) {
			for _, x := range accepted(c, in.Commands) {
				if x.Service == 128 && x.Sub == 2 && int(x.Data[0]) < len(c.Units) {
					failed = failed.Without(int(x.Data[0]))
				}
			}
			now := e.Context()
			if !failed.Within(now.Failed) {
				t.Fatalf("seed %d, cycle %d: failed %s, known as failed %s", seed, e.Time(), failed.Text(), now.Failed.Text())
			}
			for _, o := range out.Orders {
				if o.On && (failed.Has(o.Unit) || now.Failed.Has(o.Unit)) {
					t.Fatalf("seed %d, cycle %d: %v is ordered on, failed %s, then %s", seed, e.Time(), o, failed.Text(), now.Failed.Text())
				}
				if o.On {
					ordered++
				}
			}
			if now.Chain != before.Chain {
				taken++
				if strap.Chain(now.Chain).Units().And(now.Failed) != 0 {
					t.Fatalf("seed %d, cycle %d: %v is taken, failed %s", seed, e.Time(), now.Chain, now.Failed.Text())
				}
			}
			failures += now.Failed.Less(failed).Count()
			failed = now.Failed
		})
	}
	if ordered < 2000 || taken < 300 || failures < 2000 {
		t.Error(ordered, taken, failures)
	}
}

// TestFailedNotActive: a chain becomes active, step by step, only if none of its
// units is bad then.
func TestFailedNotActive(t *testing.T) {
	changes := 0
	for seed := range uint32(150) {
		active := strap.None()
		flight(t, seed+1000, 500, func(c exec.Config, e *exec.Exec, before context.Context, in exec.Input, out exec.Output) {
			now := e.Chain()
			bad := e.Context().Failed.Or(e.Context().Inhibited)
			if now != active && now != strap.None() {
				changes++
				if now.Units().And(bad) != 0 || !c.Map.Admits(now, 0) {
					t.Fatalf("seed %d, cycle %d: %v is active, bad %s", seed, e.Time(), now, bad.Text())
				}
			}
			active = now
		})
	}
	if changes < 150 {
		t.Error(changes)
	}
}

// TestCountersBounded: P6. No Retry is above its limit, and that no chain remains
// is told once.
func TestCountersBounded(t *testing.T) {
	spent, none := 0, 0
	for seed := range uint32(250) {
		flight(t, seed+2000, 500, func(c exec.Config, e *exec.Exec, before context.Context, in exec.Input, out exec.Output) {
			now := e.Context()
			for role, n := range now.Retry {
				if n > c.Limits[role] {
					t.Fatalf("seed %d, cycle %d: role %d: %d of %d", seed, e.Time(), role, n, c.Limits[role])
				}
				spent += int(n)
			}
			events := 0
			for _, n := range e.Log() {
				if n.Event == 9 && n.Time == e.Time() {
					events++
				}
			}
			none += events
			// It is told just when it becomes so, unless the ground said that it
			// isn't, in that cycle.
			cleared := slices.ContainsFunc(accepted(c, in.Commands), func(x pus.Command) bool { return x.Service == 128 && x.Sub == 6 && x.Data[0] < 6 })
			if becomes := now.Exhausted && !before.Exhausted; !cleared && events != 0 != becomes && len(e.Log()) < 16 || events > 1 {
				t.Fatalf("seed %d, cycle %d: %d events, exhausted %t, before %t", seed, e.Time(), events, now.Exhausted, before.Exhausted)
			}
		})
	}
	if spent < 1000 || none < 300 {
		t.Error(spent, none)
	}
}

// TestSwitchOversEnd: P6. A switch-over of whose units none is powered off
// meanwhile lasts no longer than the configuration's Bound.
func TestSwitchOversEnd(t *testing.T) {
	ended := 0
	for seed := range uint32(250) {
		busy, cut := 0, false
		flight(t, seed+6000, 500, func(c exec.Config, e *exec.Exec, before context.Context, in exec.Input, out exec.Output) {
			switch {
			case !e.Busy():
				if busy > 1 && !cut {
					ended++
				}
				busy, cut = 0, false
			case slices.ContainsFunc(out.Orders, func(o plant.Order) bool { return !o.On }):
				cut = true
			case len(out.Orders) > 0 || e.Context().Retry != before.Retry:
				busy = 1 // it may be another one
			default:
				busy++
			}
			if !cut && busy > c.Bound() {
				t.Fatalf("seed %d, cycle %d: busy for %d cycles", seed, e.Time(), busy)
			}
		})
	}
	if ended < 500 {
		t.Error(ended)
	}
}

// TestViolationIsSafe: P7. As long as a rule of level 2 or above that isn't
// inhibited is violated, it is safe at the end of each cycle.
func TestViolationIsSafe(t *testing.T) {
	violated, left := 0, 0
	for seed := range uint32(250) {
		flight(t, seed+3000, 400, func(c exec.Config, e *exec.Exec, before context.Context, in exec.Input, out exec.Output) {
			for _, i := range e.Violated() {
				if r := c.Mons[i]; r.Level >= 2 && e.Context().Inhibit>>r.Level&1 == 0 {
					violated++
					if e.Mode() != api.Safe || out.Mode != api.Safe || out.Dipole != (api.Vec{}) || out.Torque != (api.Vec{}) {
						t.Fatalf("seed %d, cycle %d: rule %d is violated, mode %d", seed, e.Time(), i, e.Mode())
					}
				}
			}
			if e.Mode() != api.Safe {
				left++
			}
		})
	}
	if violated < 1000 || left < 1000 {
		t.Error(violated, left)
	}
}

// TestViolationAtEachLevel: that it is safe, as long as it lasts, also if the
// ground asks for other modes, with each rule alone.
func TestViolationAtEachLevel(t *testing.T) {
	for level := range uint8(5) {
		for _, u := range []int{-1, 0, 7} {
			x := settled(t, with(func(c *exec.Config) { c.Mons = append(c.Mons, limit(9, 20, level, u)); c.Ladder = [5]uint8{255, 255} }))
			x.in.Params[3] = 200
			x.do(128, 1, api.Detumble)
			x.in.Params[9] = 6
			for range 40 {
				x.do(128, 1, api.Detumble)
				if (x.Mode() == api.Safe) != (level >= 2) {
					t.Fatal(level, x.Mode())
				}
			}
			x.acked(0, 128, 7, level)
			x.do(128, 1, api.Detumble)
			if x.Mode() != api.Detumble {
				t.Error(level, x.Mode())
			}
			x.do(128, 8, level)
			x.in.Params[9] = 5
			x.do(128, 1, api.Detumble)
			if x.Mode() != api.Detumble {
				t.Error(level, x.Mode())
			}
		}
	}
}

// TestWritesSurvive: P4. What the memory holds behind a cycle, in whatever place
// it was cut, is the context at its beginning, or the one at its end, but for
// what the reset makes of it.
func TestWritesSurvive(t *testing.T) {
	cuts := 0
	for seed := range uint32(200) {
		draw := draws(seed + 4000)
		c := anyConfig(draw)
		c.Scrub = uint8(draw(3))
		e, _ := exec.New(c)
		w := clear(draw, c)
		for range 300 {
			in := w.next()
			in.Flips = nil
			if e.Memory().Good() == 7 {
				in.Flips = []exec.Flip{{Copy: draw(3), At: draw(29), Mask: byte(1 + draw(255))}}
			}
			if in.Reset = byte(draw(2) * draw(4)); in.Reset == 1 {
				in.Reset = 0
			}
			// What the memory held before.
			m := guard.Of(e.Memory().Copies()...)
			before := e.Context()
			e.Cycle(in)
			now, ok := context.Read(e.Memory())
			if !ok || now != e.Context() {
				t.Fatalf("seed %d, cycle %d: %v, want %v", seed, e.Time(), now, e.Context())
			}
			if old, ok := context.Read(m); !ok || old != before {
				t.Fatalf("seed %d, cycle %d: %v, want %v", seed, e.Time(), old, before)
			}
			if in.Reset >= 2 && in.Reset <= 3 {
				cuts++
				if now.Resets != before.Resets+1 {
					t.Fatal(now, before)
				}
			}
		}
	}
	if cuts < 1000 {
		t.Error(cuts)
	}
}

// TestTwoAlike: P2. Two executives of one configuration, told the same, answer
// the same, while others go on between them.
func TestTwoAlike(t *testing.T) {
	for seed := range uint32(60) {
		draw := draws(seed + 5000)
		c := anyConfig(draw)
		x, y, other := fly(t, c), fly(t, c), fly(t, config())
		w, v := clear(draw, c), clear(draws(seed), config())
		for range 200 {
			in := w.next()
			x.out = x.Cycle(in)
			other.Cycle(v.next())
			// To be asked changes nothing.
			x.Context()
			x.Log()
			x.Queue()
			x.Violated()
			x.Memory().Copies()
			y.out = y.Cycle(in)
			alike(t, x, y)
		}
	}
}

// TestAnything: P1. Whatever comes, each call ends.
func TestAnything(t *testing.T) {
	x := fly(t, config())
	long := make([]byte, 70000)
	for n := range 2000 {
		draw := draws(uint32(n))
		var in exec.Input
		for i := range in.Params {
			in.Params[i] = int32(uint32(draw(1<<24))<<8 | uint32(draw(256)))
		}
		in.Acks, in.Well, in.Reset = bits.Set(draw(65536)), bits.Set(draw(65536)), uint8(draw(256))
		in.Watchdog, in.Hardware = draw(2) == 0, draw(2) == 0
		for range draw(20) {
			in.Flips = append(in.Flips, exec.Flip{Copy: draw(9) - 3, At: draw(99) - 30, Mask: byte(draw(256))})
		}
		for range draw(20) {
			p := long[:draw(300)]
			for i := range p {
				p[i] = byte(draw(256))
			}
			if draw(4) == 0 && len(p) > 0 && len(p) < 200 {
				p, _ = packet.Packet{Command: true, Apid: apid, Data: p}.Bytes()
			}
			in.Commands = append(in.Commands, p)
		}
		in.Commands = append(in.Commands, nil, long)
		x.Cycle(in)
	}
}
