package exec_test

import (
	"fmt"
	"math"
	"reflect"
	"slices"
	"testing"

	"aerie/api"
	"aerie/exec"
	"aerie/journal"
	"aerie/mode"
	"aerie/monitor"
	"aerie/packet"
	"aerie/pus"
	"aerie/steer"
	"aerie/vec"
)

// modal is a configuration without units whose modes last, but for what Calm
// and Lost say.
func modal(calm, lost uint8) exec.Config {
	c := bare()
	c.Modes = mode.Config{Calm: calm, Seen: 1, Lost: lost}
	return c
}

// TestModeEvents: what the mode's Step tells: the mode it is then.
func TestModeEvents(t *testing.T) {
	x := fly(t, with(func(c *exec.Config) {
		c.Units, c.Map = nil, bare().Map
		c.Modes = mode.Config{Calm: 2, Seen: 2, Lost: 2, Timeout: [4]uint16{1, 4, 4, 1}}
	}))
	in := func(rate, sun int32, events string, m byte) {
		t.Helper()
		x.in.Params[4], x.in.Params[8] = rate, sun
		x.run(1)
		x.is(events, "")
		if x.out.Mode != m || x.Mode() != m || x.Context().Mode != m {
			t.Errorf("cycle %d: mode %d, want %d", x.Time(), x.Mode(), m)
		}
	}
	in(0, 0, "", 0)
	in(0, 0, "", 0)
	x.acked(0, 128, 1, 1)
	in(101, 0, "", 1)
	in(-101, 0, "", 1)
	in(101, 500, "", 1)
	in(100, 0, "5/1/0", 0) // late
	x.acked(0, 128, 1, 1)
	in(100, 0, "", 1)
	in(-100, 0, "5/1/2", 2) // calm
	in(0, 500, "", 2)
	x.acked(0, 128, 1, 3)
	in(0, -500, "", 2) // asked too early
	x.acked(0, 128, 1, 3)
	in(0, 499, "", 3)
	in(0, 500, "", 3)
	in(0, -499, "", 3)
	in(0, 499, "5/1/2", 2) // dark
	in(0, 0, "", 2)
	in(0, 0, "", 2)
	in(0, 0, "", 2)
	in(0, 0, "5/1/0", 0) // late
	if got := x.service(5)[0][:4]; got != "2:05" {
		t.Error(got)
	}
	// Safe mode is requested while it is safe: nothing is told.
	x.in.Watchdog = true
	in(0, 0, "4/3/3", 0)
	x.acked(0, 128, 1, 1)
	x.in.Watchdog = true
	in(0, 0, "4/3/3 5/1/0", 0)
}

// TestCalmAndSeen: each rate is looked at, and the sun's length.
func TestCalmAndSeen(t *testing.T) {
	for _, rates := range [][3]int32{{0, 0, 0}, {100, -100, 100}, {101, 0, 0}, {0, 101, 0}, {0, 0, 101}, {-101, 0, 0}, {0, -101, 0}, {0, 0, -101}, {math.MinInt32, 0, 0}, {0, math.MaxInt32, 0}, {100, 100, 100}} {
		x := fly(t, modal(1, 0))
		copy(x.in.Params[3:], rates[:])
		x.in.Params[2], x.in.Params[6], x.in.Params[9] = 5000, 5000, 5000
		x.do(128, 1, 1)
		calm := true
		for _, r := range rates {
			calm = calm && r >= -100 && r <= 100
		}
		if (x.Mode() == api.Sun) != calm {
			t.Error(rates, x.Mode())
		}
	}
	for _, sun := range [][3]int32{{0, 0, 0}, {500, 0, 0}, {0, -500, 0}, {0, 0, 500}, {499, 0, 0}, {0, 499, 0}, {0, 0, -499}, {300, 400, 0}, {0, 300, 399}, {289, 289, 289}, {288, 288, 288}, {math.MinInt32, 0, 0}, {math.MaxInt32, math.MaxInt32, math.MaxInt32}} {
		x := fly(t, modal(0, 1))
		x.in.Params[6] = 500
		x.do(128, 1, 1)
		x.do(128, 1, 2)
		x.do(128, 1, 3)
		if x.Mode() != api.Nominal {
			t.Fatal(x.Mode())
		}
		copy(x.in.Params[6:], sun[:])
		x.in.Params[5], x.in.Params[9] = 5000, 5000
		x.run(1)
		if seen := vec.Size(sun) >= 500; (x.Mode() == api.Nominal) != seen {
			t.Error(sun, x.Mode())
		}
	}
}

// TestActuators: in each mode, through fields, rates and directions of all
// kinds: what is told of them, and zeros otherwise.
func TestActuators(t *testing.T) {
	draw := draws(8)
	number := func() int32 {
		n := []int32{0, 0, 1, 30, -77, 100, 249, 250, 251, -500, 1000, 5000, math.MaxInt32, math.MinInt32}[draw(14)]
		return n + int32(draw(3))
	}
	for m := range byte(4) {
		x := fly(t, modal(0, 0))
		x.in.Params[6] = 500
		for n := byte(1); n <= m; n++ {
			x.do(128, 1, n)
		}
		last := api.Vec(x.in.Params[:3])
		for range 500 {
			for i := range 9 {
				x.in.Params[i] = number()
			}
			p := x.in.Params
			field, rate, sun := api.Vec(p[:3]), api.Vec(p[3:6]), api.Vec(p[6:9])
			x.run(1)
			var dipole, torque api.Vec
			switch m {
			case 1:
				dipole = steer.Bdot(field, last, false, 4, 0, 1000)
			case 2, 3:
				torque = steer.Sun(sun, rate, 0, 2, 4, 0, 1000)
			}
			if x.out.Dipole != dipole || x.out.Torque != torque || x.out.Mode != m {
				t.Fatal(m, p, last, x.out)
			}
			last = field
		}
	}
	// By hand: the axis x, the sun in y and z, the rates.
	x := fly(t, modal(0, 0))
	x.do(128, 1, 1)
	x.in.Params = [16]int32{0, 0, 0, 10, -20, 30, 700, 1024, 256}
	x.do(128, 1, 2)
	// Cross of (1000, 0, 0) and the sun: (0, -256000, 1024000) / 1024, twice,
	// less four times the rates.
	if x.out.Torque != (api.Vec{-40, -420, 1000}) || x.out.Dipole != (api.Vec{}) {
		t.Error(x.out)
	}
}

// TestField: that of the last cycle, whatever its mode was, and none in the
// first cycle after a reset, or of a new executive.
func TestField(t *testing.T) {
	dipole := func(x *craft, m byte, field, want int32) {
		t.Helper()
		x.in.Params[1] = field
		x.acked(0, 128, 1, m)
		x.run(1)
		if x.out.Dipole != (api.Vec{0, want, 0}) {
			t.Errorf("cycle %d: %v, want %d", x.Time(), x.out.Dipole, want)
		}
	}
	x := fly(t, modal(0, 0))
	dipole(x, 1, 100, 0)
	dipole(x, 1, 110, -40)
	dipole(x, 1, 110, 0)
	dipole(x, 1, 90, 80)
	dipole(x, 1, 400, -1000)
	dipole(x, 1, -400, 1000)
	dipole(x, 0, 7, 0)
	dipole(x, 1, 8, -4)
	dipole(x, 2, 3, 0)
	dipole(x, 0, 5, 0)
	dipole(x, 1, 6, -4)
	for _, reset := range []uint8{1, 2, 3, 0} {
		dipole(x, 1, 50, x.was(50))
		x.in.Reset = reset
		switch reset {
		case 1:
			dipole(x, 1, 60, 0) // the field is there, but no last one
			dipole(x, 1, 61, -4)
		case 2, 3:
			dipole(x, 1, 60, -40) // the reset comes behind
			dipole(x, 1, 75, 0)
			dipole(x, 1, 76, -4)
		default:
			dipole(x, 1, 60, -40)
		}
	}
	e, _ := exec.Restart(modal(0, 0), x.Memory())
	y := &craft{Exec: e, t: t}
	dipole(y, 1, 33, 0)
	dipole(y, 1, 34, -4)
}

// was is the dipole for a field behind that of the last cycle.
func (x *craft) was(field int32) int32 {
	return max(-1000, min(1000, 4*(x.in.Params[1]-field)))
}

// TestTelemetry: at most Send reports, the oldest first.
func TestTelemetry(t *testing.T) {
	for _, send := range []int{0, 1, 2, 5, 16, 17, math.MaxInt} {
		x := fly(t, with(func(c *exec.Config) { c.Units, c.Map, c.Send = nil, bare().Map, send }))
		made, waiting := 0, 0
		for n := range 30 {
			for range n % 4 {
				x.acked(0, 17, 1)
			}
			dropped := max(0, waiting+n%4-16)
			waiting += n%4 - dropped
			x.run(1)
			sent := min(send, waiting)
			waiting -= sent
			if len(x.told) != sent || len(x.Queue()) != waiting {
				t.Fatal(send, n, len(x.told), len(x.Queue()), waiting)
			}
			for _, r := range x.told {
				if int(r.Count) != made || r.Service != 17 || r.Sub != 2 {
					t.Fatal(send, r, made)
				}
				made++
			}
			for k, r := range x.Queue() {
				if int(r.Count) != made+k {
					t.Fatal(send, r, made+k)
				}
			}
		}
	}
}

// TestQueueFull: the newest is dropped; the journal has it all the same.
func TestQueueFull(t *testing.T) {
	for _, room := range []int{1, 2, 3, 16} {
		x := fly(t, with(func(c *exec.Config) {
			c.Room, c.Send = room, 0
			c.Mons = []monitor.Rule{limit(9, 20, 2, -1)}
		}))
		for range 20 {
			x.tc(17, 1)
		}
		x.in.Params[9] = 6
		x.run(1)
		var got []string
		for _, r := range x.Queue() {
			got = append(got, fmt.Sprintf("%d,%d %d", r.Service, r.Sub, r.Count))
		}
		var want []string
		for n := range room {
			want = append(want, fmt.Sprintf("%s %d", []string{"1,1", "17,2", "1,7"}[n%3], n))
		}
		if !slices.Equal(got, want) || x.Dropped() != 60+3-room {
			t.Error(room, got, x.Dropped())
		}
		x.wants("events", x.noted(), "20/2/0 4/3/2")
		x.run(1)
		if x.Dropped() != 60+4-room {
			t.Error(x.Dropped())
		}
	}
	// In order: what was put in first stays, and the number goes to the next.
	x := fly(t, with(func(c *exec.Config) { c.Room, c.Send = 2, 1 }))
	x.tc(17, 1)
	x.run(1)
	x.wants("reports", x.kinds(), "1,1")
	x.acked(1, 17, 1)
	x.run(1)
	x.wants("reports", x.kinds(), "17,2")
	x.run(1)
	x.wants("reports", x.kinds(), "1,1")
	if x.told[0].Count != 2 || x.Dropped() != 2 {
		t.Error(x.told, x.Dropped())
	}
	// Up to 65535.
	x = fly(t, with(func(c *exec.Config) { c.Room, c.Send = 1, 0 }))
	for range 70 {
		x.in.Commands = slices.Repeat([][]byte{{1}}, 1000)
		x.run(1)
	}
	if x.Dropped() != 65535 {
		t.Error(x.Dropped())
	}
}

// TestPacketCounts: from 0 on, round at their end, and not begun anew by a
// reset.
func TestPacketCounts(t *testing.T) {
	x := fly(t, bare())
	for n := range 1100 {
		x.in.Commands = slices.Repeat([][]byte{{1}}, 16)
		if n%100 == 50 {
			x.in.Reset = byte(n/100%3 + 1)
		}
		x.run(1) // which looks at each Count
	}
	if x.sent < 17000 {
		t.Error(x.sent)
	}
	p, _ := packet.Parse(x.out.Telemetry[0])
	if p.Apid != apid || p.Command || int(p.Count) != (x.sent-len(x.out.Telemetry))%16384 {
		t.Error(p)
	}
}

// TestEventReports: an event's entry, and its report of service 5.
func TestEventReports(t *testing.T) {
	x := fly(t, with(func(c *exec.Config) {
		c.Mons = []monitor.Rule{limit(10, 1, 0, 1), limit(9, 200, 1, 1)}
	}))
	x.run(4)
	x.in.Params[9] = 6
	x.in.Reset = 1
	x.run(1)
	want := []journal.Entry{entry(1, 4, 8, 0, 0), entry(2, 5, 10, 0, 1), entry(3, 5, 200, 2, 1), entry(4, 5, 4, 3, 1)}
	if got := x.Log(); !slices.Equal(got, want) {
		t.Error(got)
	}
	var told []journal.Entry
	for _, r := range x.told {
		if r.Service == 5 {
			e, err := journal.Parse(r.Sub, r.Data)
			if err != api.OK || e.Time != r.Time {
				t.Error(r)
			}
			told = append(told, e)
		}
	}
	if !slices.Equal(told, want[1:]) {
		t.Error(told)
	}
	// The journal has room for sixteen.
	for range 30 {
		x.run(1)
	}
	if l := x.Log(); len(l) != 16 || l[15].Seq-l[0].Seq != 15 || l[15].Time != x.Time() {
		t.Error(l)
	}
}

// TestOutputOrders: all of a cycle, in the order in which they are issued, and
// of this cycle alone.
func TestOutputOrders(t *testing.T) {
	x := settled(t, with(func(c *exec.Config) {
		c.Mons = []monitor.Rule{limit(9, 20, 0, 5)}
		c.Acts = rows(0)
	}))
	x.acked(0, 19, 1, 20, 2, 0, 1)
	x.acked(0, 128, 3, 2)
	x.in.Params[9] = 6
	x.run(1)
	// Cut; off, and on again; then what the new chain needs, 0 among it.
	x.wants("orders", x.orders(), "-0 -5 +5 +0 +3")
	x.run(1)
	x.wants("orders", x.orders(), "")
}

// TestToldIsOwn: what is told may be changed, and what was handed in, too.
func TestToldIsOwn(t *testing.T) {
	c := with(func(c *exec.Config) {
		c.Mons = []monitor.Rule{limit(9, 20, 0, 5), limit(10, 21, 2, -1)}
		c.Send, c.Scrub = 3, 2
	})
	x, y := fly(t, c), fly(t, c)
	w := clear(draws(5), c)
	for range 400 {
		in := w.next()
		x.in = in
		x.in.Commands, x.in.Flips = nil, slices.Clone(in.Flips)
		for _, tc := range in.Commands {
			x.in.Commands = append(x.in.Commands, slices.Clone(tc))
		}
		commands, flips := x.in.Commands, x.in.Flips
		x.out, y.out = x.Cycle(x.in), y.Cycle(in)
		if !reflect.DeepEqual(commands, in.Commands) || !slices.Equal(flips, in.Flips) {
			t.Fatal("what was handed in was changed")
		}
		alike(t, x, y)
		spoil(x, commands, flips)
		y.Cycle(exec.Input{})
		x.Cycle(exec.Input{})
		alike(t, x, y)
	}
}

// spoil changes all that was handed in and told.
func spoil(x *craft, commands [][]byte, flips []exec.Flip) {
	for _, tc := range commands {
		for i := range tc {
			tc[i] ^= 0x55
		}
	}
	for i := range flips {
		flips[i] = exec.Flip{Copy: 1, At: 1, Mask: 1}
	}
	log, queue, violated := x.Log(), x.Queue(), x.Violated()
	for i := range log {
		log[i] = journal.Entry{}
	}
	for i := range queue {
		for k := range queue[i].Data {
			queue[i].Data[k]++
		}
		queue[i] = pus.Report{}
	}
	for i := range violated {
		violated[i] = 15
	}
	chain, ctx := x.Chain(), x.Context()
	chain[0], ctx.Chain[0], ctx.Retry[0] = 9, 9, 9
	out := x.out
	x.out.Telemetry, x.out.Orders = slices.Clone(out.Telemetry), slices.Clone(out.Orders)
	for i := range out.Telemetry {
		x.out.Telemetry[i] = slices.Clone(out.Telemetry[i])
		for k := range out.Telemetry[i] {
			out.Telemetry[i][k] = 0
		}
	}
	for i := range out.Orders {
		out.Orders[i].Unit = 99
	}
}
