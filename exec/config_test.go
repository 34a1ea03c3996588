package exec_test

import (
	"math"
	"reflect"
	"slices"
	"testing"

	"aerie/action"
	"aerie/api"
	"aerie/bits"
	"aerie/context"
	"aerie/exec"
	"aerie/guard"
	"aerie/mode"
	"aerie/monitor"
	"aerie/strap"
	"aerie/unit"
	"aerie/verify"
)

// rows are that many, of events 1, 2, ..
func rows(n int) []action.Row {
	var l []action.Row
	for i := range n {
		l = append(l, action.Row{Event: uint8(i + 1)})
	}
	return l
}

// with is config, changed.
func with(change func(c *exec.Config)) exec.Config {
	c := config()
	change(&c)
	return c
}

// TestRight: each part that may be, and each that may not, alone.
func TestRight(t *testing.T) {
	right := limit(9, 20, 2, -1)
	wrong := func(change func(r *monitor.Rule)) []monitor.Rule {
		r := right
		change(&r)
		return []monitor.Rule{right, r}
	}
	for i, x := range []struct {
		want   bool
		change func(c *exec.Config)
	}{
		{true, func(c *exec.Config) {}},
		{true, func(c *exec.Config) { c.Units, c.Map = nil, strap.Map{} }},
		{true, func(c *exec.Config) { c.Units = rules(16, 255, 255) }},
		{false, func(c *exec.Config) { c.Units = rules(17, 0, 0) }},
		{false, func(c *exec.Config) { c.Units = rules(300, 0, 0) }},
		// The units in the roles exist, those of Links need not.
		{true, func(c *exec.Config) { c.Units = rules(7, 0, 0) }},
		{false, func(c *exec.Config) { c.Units = rules(6, 0, 0) }},
		{false, func(c *exec.Config) { c.Units = nil }},
		{true, func(c *exec.Config) { c.Map = linked(bits.Of(7)) }},
		{false, func(c *exec.Config) { c.Map = linked(bits.Of(8)) }},
		{false, func(c *exec.Config) { c.Map = linked(bits.Of(0), bits.Of(1, 15)) }},
		{true, func(c *exec.Config) { c.Units, c.Map = rules(16, 0, 0), linked(bits.Of(0), bits.Of(1, 15)) }},
		{true, func(c *exec.Config) { c.Map = linked(0, 0) }},
		{true, func(c *exec.Config) { c.Map = strap.Map{Roles: []strap.Role{{Units: 3}}} }},
		// Layer 18.
		{true, func(c *exec.Config) { c.Map = linked(1, 2, 4, 8, 16, 32) }},
		{false, func(c *exec.Config) { c.Map = linked(1, 2, 4, 8, 16, 32, 64) }},
		{false, func(c *exec.Config) { c.Map = linked(0, 0, 0, 0, 0, 0, 0) }},
		{false, func(c *exec.Config) { c.Map = linked(bits.Of(0, 1), bits.Of(1, 2)) }},
		{false, func(c *exec.Config) { c.Map = linked(bits.Of(0), bits.Of(1), bits.Of(0)) }},
		// Layer 16.
		{true, func(c *exec.Config) { c.Mons = slices.Repeat([]monitor.Rule{right}, 16) }},
		{false, func(c *exec.Config) { c.Mons = slices.Repeat([]monitor.Rule{right}, 17) }},
		{false, func(c *exec.Config) { c.Mons = wrong(func(r *monitor.Rule) { r.Repeat = 0 }) }},
		{false, func(c *exec.Config) { c.Mons = wrong(func(r *monitor.Rule) { r.Level = 5 }) }},
		{true, func(c *exec.Config) { c.Mons = wrong(func(r *monitor.Rule) { r.Level = 4 }) }},
		{false, func(c *exec.Config) { c.Mons = wrong(func(r *monitor.Rule) { r.Unit = 16 }) }},
		{false, func(c *exec.Config) { c.Mons = wrong(func(r *monitor.Rule) { r.Unit = -2 }) }},
		{true, func(c *exec.Config) { c.Mons = wrong(func(r *monitor.Rule) { r.Unit = 15 }) }},
		{false, func(c *exec.Config) { c.Mons = wrong(func(r *monitor.Rule) { r.Def.Low = 6 }) }},
		{false, func(c *exec.Config) { c.Mons = wrong(func(r *monitor.Rule) { r.Def.Kind = 3 }) }},
		{false, func(c *exec.Config) { c.Mons = wrong(func(r *monitor.Rule) { r.Def.Param = 16 }) }},
		{false, func(c *exec.Config) { c.Mons = []monitor.Rule{{}} }},
		// Layer 21.
		{true, func(c *exec.Config) { c.Acts = rows(16) }},
		{false, func(c *exec.Config) { c.Acts = rows(17) }},
		{true, func(c *exec.Config) { c.Acts = slices.Repeat([]action.Row{{Event: 9}}, 17) }},
		{true, func(c *exec.Config) { c.Acts = []action.Row{{Kind: 5, Arg: 15}} }},
		{false, func(c *exec.Config) { c.Acts = []action.Row{{Kind: 6}} }},
		{false, func(c *exec.Config) { c.Acts = []action.Row{{}, {Arg: 16}} }},
		// Layer 11.
		{false, func(c *exec.Config) { c.Room = 0 }},
		{true, func(c *exec.Config) { c.Room = 1 }},
		{true, func(c *exec.Config) { c.Room = 16 }},
		{false, func(c *exec.Config) { c.Room = 17 }},
		{false, func(c *exec.Config) { c.Room = -1 }},
		{false, func(c *exec.Config) { c.Room = math.MinInt }},
		{false, func(c *exec.Config) { c.Room = math.MaxInt }},
		{true, func(c *exec.Config) { c.Apid = 0 }},
		{true, func(c *exec.Config) { c.Apid = 2047 }},
		{false, func(c *exec.Config) { c.Apid = 2048 }},
		{false, func(c *exec.Config) { c.Apid = 65535 }},
		{true, func(c *exec.Config) { c.Send = 0 }},
		{false, func(c *exec.Config) { c.Send = -1 }},
		{false, func(c *exec.Config) { c.Send = math.MinInt }},
		{true, func(c *exec.Config) { c.Send = math.MaxInt }},
		// Of these, all are.
		{true, func(c *exec.Config) { c.Limits, c.Ladder, c.Scrub = [6]uint8{255, 0, 255}, [5]uint8{0, 255}, 255 }},
		{true, func(c *exec.Config) {
			c.Modes = mode.Config{Calm: 255, Seen: 255, Lost: 255, Timeout: [4]uint16{65535, 65535, 65535, 65535}}
		}},
		{true, func(c *exec.Config) { c.Limits, c.Ladder, c.Modes = [6]uint8{}, [5]uint8{}, mode.Config{} }},
	} {
		c := with(x.change)
		if c.Right() != x.want {
			t.Errorf("%d: Right: %t", i, c.Right())
		}
		made(t, i, c, x.want)
	}
	if (exec.Config{}).Right() {
		t.Error("no room at all")
	}
}

// made checks that an executive is made of a configuration, or that it is not,
// and the memory that was handed in is left alone.
func made(t *testing.T, i int, c exec.Config, right bool) {
	t.Helper()
	want := api.ErrArg
	if right {
		want = api.OK
	}
	if e, err := exec.New(c); err != want || (e != nil) != right {
		t.Errorf("%d: New: %v, %d", i, e != nil, err)
	}
	m := guard.New()
	m.Fill([]byte("left alone"))
	m.Begin([]byte("pending"))
	before := m.Copies()
	if e, err := exec.Restart(c, m); err != want || (e != nil) != right {
		t.Errorf("%d: Restart: %v, %d", i, e != nil, err)
	}
	if alone := m.Pending() && reflect.DeepEqual(m.Copies(), before); alone == right {
		t.Errorf("%d: memory left alone: %t", i, alone)
	}
	if e, err := exec.Restart(c, nil); err != api.ErrArg || e != nil {
		t.Errorf("%d: Restart without memory: %v, %d", i, e != nil, err)
	}
}

func TestNew(t *testing.T) {
	for _, c := range []exec.Config{config(), bare(), with(func(c *exec.Config) { c.Mons, c.Acts = []monitor.Rule{limit(9, 20, 2, -1)}, rows(3) })} {
		e, err := exec.New(c)
		if err != api.OK {
			t.Fatal(err)
		}
		seq, p, err := e.Memory().Read()
		if seq != 1 || !slices.Equal(p, context.Default().Bytes()) || err != api.OK || e.Memory().Good() != bits.Of(0, 1, 2) || e.Memory().Pending() {
			t.Error("memory", seq, p, err)
		}
		if e.Context() != context.Default() || e.Mode() != api.Safe || e.Time() != 0 || e.Chain() != strap.None() || e.Busy() {
			t.Error(e.Context(), e.Mode(), e.Time(), e.Chain(), e.Busy())
		}
		if len(e.Log()) != 0 || len(e.Queue()) != 0 || e.Dropped() != 0 || len(e.Violated()) != 0 {
			t.Error(e.Log(), e.Queue(), e.Dropped(), e.Violated())
		}
		other, _ := exec.New(c)
		if other.Memory() == e.Memory() {
			t.Error("two executives have one memory")
		}
	}
	// Nothing is powered: all that is needed is ordered on.
	x := fly(t, config())
	x.runs("", "+0 +2 +5")
	if x.Time() != 1 || !x.Busy() || x.out.Mode != api.Safe {
		t.Error(x.Time(), x.Busy(), x.out.Mode)
	}
}

// stored is a context that was never the default.
func stored() context.Context {
	return context.Context{
		Failed: bits.Of(0, 9), Inhibited: bits.Of(3), Retry: [6]uint8{1, 2, 0, 0, 0, 255}, Chain: [6]int8{1, 2, 5, -1, -1, -1},
		Mode: api.Nominal, Resets: 41, Exhausted: true, Inhibit: 5,
	}
}

// held is a memory that contains a context.
func held(c context.Context) *guard.Memory {
	m := guard.New()
	m.Fill(c.Bytes())
	return m
}

func TestRestart(t *testing.T) {
	m := held(stored())
	e, err := exec.Restart(config(), m)
	want := stored()
	want.Mode, want.Resets = api.Safe, 42
	if err != api.OK || e.Memory() != m || e.Context() != want || e.Mode() != api.Safe || e.Time() != 0 || e.Chain() != strap.None() || e.Busy() {
		t.Fatal(err, e.Context(), e.Mode(), e.Time(), e.Chain())
	}
	if seq, p, _ := m.Read(); seq != 2 || !slices.Equal(p, want.Bytes()) || m.Good() != 7 {
		t.Error("memory", seq, p)
	}
	x := &craft{Exec: e, t: t, in: exec.Input{Acks: every, Well: every}}
	x.wants("events", x.noted(), "10/0/42")
	if l := e.Log(); l[0] != entry(1, 0, 10, 0, 42) || len(e.Queue()) != 1 || e.Queue()[0].Time != 0 {
		t.Error(l, e.Queue())
	}
	// The chain that was taken is begun with, and nothing is spent for it.
	x.runs("", "+1 +2 +5")
	x.run(3)
	x.is("8/0/0", "")
	x.on("1 2 5 - - -", "1 2 5 - - -")
	want.Exhausted = false
	if e.Context() != want || x.wrote() != want {
		t.Error(e.Context(), want)
	}
	if e.Memory() != m {
		t.Error("another memory")
	}
	// Restarted with it once more.
	if e, err = exec.Restart(config(), m); err != api.OK || e.Context().Resets != 43 || e.Memory() != m {
		t.Error(err, e.Context())
	}
}

// wrote is the context that the memory contains.
func (x *craft) wrote() context.Context {
	x.t.Helper()
	c, ok := context.Read(x.Memory())
	if !ok {
		x.t.Fatal("nothing in the memory")
	}
	return c
}

// TestRestartMemories: of all kinds.
func TestRestartMemories(t *testing.T) {
	pending := held(stored())
	next := stored()
	next.Resets = 7
	pending.Begin(next.Bytes())
	one := held(stored())
	one.Flip(1, 8, 1)
	two := guard.Of(held(stored()).Copies()...)
	two.Flip(1, 8, 1)
	two.Flip(0, 0, 1)
	other := guard.New()
	other.Fill([]byte("not a context"))
	last := stored()
	last.Resets = 65535
	for i, x := range []struct {
		m      *guard.Memory
		resets uint16
		read   bool
	}{
		{held(stored()), 42, true}, {held(context.Default()), 1, true}, {held(last), 65535, true},
		// What was begun is read, as two copies can be parsed.
		{pending, 8, true}, {one, 42, true}, {two, 1, false}, {other, 1, false}, {guard.New(), 1, false},
	} {
		e, err := exec.Restart(config(), x.m)
		if err != api.OK || e.Context().Resets != x.resets || e.Memory().Pending() {
			t.Fatal(i, err, e.Context())
		}
		want := []any{entry(1, 0, 10, 0, uint32(x.resets))}
		if !x.read {
			want = append(want, entry(2, 0, 11, 3, 0))
			if fresh := context.Default().Reset(); e.Context() != fresh {
				t.Error(i, e.Context())
			}
		}
		var got []any
		for _, n := range e.Log() {
			got = append(got, n)
		}
		if !reflect.DeepEqual(got, want) {
			t.Error(i, got, want)
		}
		if c, ok := context.Read(x.m); !ok || c != e.Context() {
			t.Error(i, c)
		}
	}
}

// TestNil: a nil executive.
func TestNil(t *testing.T) {
	var e *exec.Exec
	full := exec.Input{Acks: every, Well: every, Reset: 1, Watchdog: true, Hardware: true, Flips: []exec.Flip{{}}, Commands: [][]byte{nil, {1}}}
	for range 2 {
		for _, in := range []exec.Input{{}, full} {
			if out := e.Cycle(in); !reflect.DeepEqual(out, exec.Output{}) {
				t.Error(out)
			}
		}
		if e.Context() != (context.Context{}) || e.Memory() != nil || e.Chain() != (strap.Chain{}) || e.Busy() || e.Mode() != 0 || e.Time() != 0 {
			t.Error(e.Context(), e.Chain(), e.Time())
		}
		if len(e.Log()) != 0 || len(e.Queue()) != 0 || e.Dropped() != 0 || len(e.Violated()) != 0 {
			t.Error(e.Log(), e.Queue(), e.Dropped(), e.Violated())
		}
	}
}

func TestBound(t *testing.T) {
	for _, x := range []struct {
		waits []uint8
		want  int
	}{{nil, 8}, {[]uint8{0}, 8}, {[]uint8{1}, 9}, {[]uint8{3, 9, 4}, 17}, {[]uint8{9, 3}, 17}, {[]uint8{3, 9}, 17}, {[]uint8{0, 255, 0}, 263}, {[]uint8{254}, 262}} {
		var c exec.Config
		for _, w := range x.waits {
			c.Units = append(c.Units, unit.Rule{Wait: w, Tolerate: 200})
		}
		if got := c.Bound(); got != x.want {
			t.Errorf("Bound of %v = %d", x.waits, got)
		}
	}
}

// TestTable: the kinds of commands, each table its caller's own.
func TestTable(t *testing.T) {
	for range 2 {
		got := exec.Table()
		if !reflect.DeepEqual(got, known()) {
			t.Error(got)
		}
		got[verify.Kind{Service: 9, Sub: 9}] = verify.Form{}
		delete(got, verify.Kind{Service: 17, Sub: 1})
	}
}

// TestConfigNotKept: what is handed to New may be changed afterwards, and is
// not changed by it.
func TestConfigNotKept(t *testing.T) {
	c := with(func(c *exec.Config) {
		c.Mons = []monitor.Rule{limit(9, 20, 1, 7), limit(10, 21, 0, 5)}
		c.Acts = []action.Row{{Event: 20, Kind: action.Cut, Arg: 0, Enabled: true}}
	})
	for _, restarted := range []bool{false, true} {
		mine := c
		mine.Units, mine.Mons, mine.Acts = slices.Clone(c.Units), slices.Clone(c.Mons), slices.Clone(c.Acts)
		mine.Map.Roles = slices.Clone(c.Map.Roles)
		x, y := fly(t, c), fly(t, mine)
		if restarted {
			x.Exec, _ = exec.Restart(c, guard.New())
			y.Exec, _ = exec.Restart(mine, guard.New())
		}
		if !reflect.DeepEqual(mine, c) {
			t.Error("New changed a configuration")
		}
		for i := range mine.Units {
			mine.Units[i] = unit.Rule{Wait: 200}
		}
		mine.Map.Roles[0].Units, mine.Map.Roles[1].Units = 0, bits.Of(3)
		mine.Mons[0], mine.Mons[1] = monitor.Rule{}, limit(11, 1, 4, 1)
		mine.Acts[0] = action.Row{Event: 1, Kind: 9}
		for n := range 40 {
			for _, z := range []*craft{x, y} {
				z.in.Params[9], z.in.Params[10] = int32(n%11-8), int32(n%7)
				if n == 20 {
					z.in.Reset = 1
				}
				if n > 24 {
					z.in.Acks = every.Without(0, 2)
				}
				z.run(1)
			}
			alike(t, x, y)
		}
	}
}

// alike checks that two executives are, in all that can be seen.
func alike(t *testing.T, x, y *craft) {
	t.Helper()
	if !reflect.DeepEqual(x.out, y.out) {
		t.Fatalf("cycle %d: %v, and %v", x.Time(), x.out, y.out)
	}
	unmoved(t, x, y)
	if !reflect.DeepEqual(x.Queue(), y.Queue()) || x.Dropped() != y.Dropped() {
		t.Fatalf("cycle %d: %v, and %v", x.Time(), x.Queue(), y.Queue())
	}
}

// unmoved checks that they are, but for what they report.
func unmoved(t *testing.T, x, y *craft) {
	t.Helper()
	for _, z := range [][2]any{
		{x.Context(), y.Context()}, {x.Memory().Copies(), y.Memory().Copies()}, {x.Chain(), y.Chain()}, {x.Busy(), y.Busy()}, {x.Mode(), y.Mode()}, {x.Time(), y.Time()},
		{x.Log(), y.Log()}, {x.Violated(), y.Violated()}, {x.out.Orders, y.out.Orders}, {x.out.Dipole, y.out.Dipole}, {x.out.Torque, y.out.Torque},
	} {
		if !reflect.DeepEqual(z[0], z[1]) {
			t.Fatalf("cycle %d: %v, and %v", x.Time(), z[0], z[1])
		}
	}
}
