package exec_test

import (
	"fmt"
	"reflect"
	"slices"
	"testing"

	"aerie/action"
	"aerie/api"
	"aerie/bits"
	"aerie/check"
	"aerie/context"
	"aerie/exec"
	"aerie/guard"
	"aerie/journal"
	"aerie/mode"
	"aerie/monitor"
	"aerie/packet"
	"aerie/plant"
	"aerie/pus"
	"aerie/steer"
	"aerie/strap"
	"aerie/unit"
	"aerie/verify"
)

// account is a plain account of the executive: units, rules, rows, levels,
// chains and the switch-over are kept and worked out here, one by one, and not
// by the layers that do so; memory, packets, modes and control laws are theirs.
type account struct {
	c        exec.Config
	m        *guard.Memory
	failed   [16]bool
	held     [16]bool
	retries  [6]int
	chain    [6]int8
	resets   int
	spent    bool
	muted    [5]bool
	written  []byte
	units    []device
	rules    []watched
	rows     map[uint8]action.Row
	rowsOff  bool
	counts   [5]int
	phase    int
	from, to [6]int8
	auto     mode.Auto
	seq      int
	log      []journal.Entry
	queue    []pus.Report
	next     int
	dropped  int
	time     int
	packets  int
	field    *api.Vec

	in     exec.Input
	out    exec.Output
	alarms [][3]int // level, unit, event
	safe   bool
}

// device is a unit: o off, s starting, w working, l lost.
type device struct {
	state rune
	left  int
	bad   int
}

// watched is a rule, all values it has seen since it began anew, and its status.
type watched struct {
	monitor.Rule
	values []int32
	found  []byte
	status byte
}

var emptyChain = [6]int8{-1, -1, -1, -1, -1, -1}

// accounted is the account of a new executive.
func accounted(c exec.Config) *account {
	a := &account{c: c, m: guard.New(), chain: emptyChain, from: emptyChain, to: emptyChain, rows: map[uint8]action.Row{}}
	for range c.Units {
		a.units = append(a.units, device{state: 'o'})
	}
	for _, r := range c.Mons {
		a.rules = append(a.rules, watched{Rule: r})
	}
	for _, r := range c.Acts {
		a.rows[r.Event] = r
	}
	a.written = a.context().Bytes()
	a.m.Fill(a.written)
	return a
}

// reaccounted is that of one that is restarted with this memory.
func reaccounted(c exec.Config, m *guard.Memory) *account {
	a := accounted(c)
	a.m = m
	a.reset()
	return a
}

// context is what the account comes to.
func (a *account) context() context.Context {
	c := context.Context{Chain: a.chain, Mode: a.auto.Mode, Resets: uint16(a.resets), Exhausted: a.spent}
	for u := range 16 {
		if a.failed[u] {
			c.Failed |= 1 << u
		}
		if a.held[u] {
			c.Inhibited |= 1 << u
		}
	}
	for r, n := range a.retries {
		c.Retry[r] = uint8(n)
	}
	for l, is := range a.muted {
		if is {
			c.Inhibit |= 1 << l
		}
	}
	return c
}

func (a *account) report(service, sub byte, data []byte) {
	if len(a.queue) == a.c.Room {
		a.dropped = min(a.dropped+1, 65535)
		return
	}
	a.queue = append(a.queue, pus.Report{Service: service, Sub: sub, Count: uint16(a.next), Time: uint32(a.time), Data: data})
	a.next++
}

func (a *account) event(n uint8, grade uint8, data int) {
	a.seq++
	a.log = append(a.log, journal.Entry{Seq: uint32(a.seq), Time: uint32(a.time), Event: n, Grade: grade, Data: uint32(data)})
	if len(a.log) > 16 {
		a.log = a.log[1:]
	}
	a.report(5, grade+1, slices.Concat([]byte{n}, four(a.seq), four(a.time), four(data)))
}

func four(n int) []byte { return []byte{byte(n >> 24), byte(n >> 16), byte(n >> 8), byte(n)} }

func (a *account) reset() {
	a.m.Reset()
	c, ok := context.Read(a.m)
	a.resets, a.spent, a.chain = min(int(c.Resets)+1, 65535), c.Exhausted, c.Chain
	for u := range 16 {
		a.failed[u], a.held[u] = c.Failed>>u&1 == 1, c.Inhibited>>u&1 == 1
	}
	for r := range 6 {
		a.retries[r] = int(c.Retry[r])
	}
	for l := range 5 {
		a.muted[l] = c.Inhibit>>l&1 == 1
	}
	a.auto = mode.Auto{}
	a.fill()
	a.event(10, 0, a.resets)
	if !ok {
		a.event(11, 3, 0)
	}
	for u := range a.units {
		a.units[u] = device{state: 'o'}
	}
	for i := range a.rules {
		a.rules[i] = watched{Rule: a.rules[i].Rule}
	}
	a.counts = [5]int{}
	a.phase, a.from, a.to = 0, emptyChain, emptyChain
	a.field = nil
}

func (a *account) fill() {
	a.written = a.context().Bytes()
	a.m.Fill(a.written)
}

// power orders a unit on, or off.
func (a *account) power(on bool, u int) {
	if u < 0 || u >= len(a.units) {
		return
	}
	d := &a.units[u]
	if on && (d.state == 'o' || d.state == 'l') {
		*d = device{state: 's', left: int(a.c.Units[u].Wait)}
	} else if !on && d.state != 'o' {
		*d = device{state: 'o'}
	} else {
		return
	}
	a.out.Orders = append(a.out.Orders, plant.Order{Unit: u, On: on})
}

func (a *account) powered(u int) bool {
	return u >= 0 && u < len(a.units) && (a.units[u].state == 's' || a.units[u].state == 'w')
}

func (a *account) active() [6]int8 {
	if a.phase == 1 || a.phase == 2 {
		return a.from
	}
	return a.to
}

func in(c [6]int8, u int) bool { return slices.Contains(c[:], int8(u)) }

func (a *account) stop() {
	if a.phase == 0 {
		return
	}
	c := a.active()
	a.phase, a.from, a.to = 0, c, c
	for u := range a.units {
		if a.powered(u) && !in(c, u) {
			a.power(false, u)
		}
	}
}

// cycle is the chapter's ten steps.
func (a *account) cycle(in exec.Input) exec.Output {
	a.in, a.out, a.alarms, a.safe = in, exec.Output{}, nil, false
	a.time++
	for _, f := range in.Flips {
		a.m.Flip(f.Copy, f.At, f.Mask)
	}
	if in.Reset == 1 {
		a.reset()
	}
	a.stepUnits()
	for _, tc := range in.Commands {
		a.command(tc)
	}
	a.watch()
	a.react()
	a.switchOver()
	p := in.Params
	rates, sun, field := api.Vec{p[3], p[4], p[5]}, api.Vec{p[6], p[7], p[8]}, api.Vec{p[0], p[1], p[2]}
	var what byte
	a.auto, what = a.auto.Step(a.c.Modes, steer.Calm(rates, 100), steer.Seen(sun, 500), a.safe)
	if what != 0 {
		a.event(5, 1, int(a.auto.Mode))
	}
	if a.auto.Mode == 1 && a.field != nil {
		a.out.Dipole = steer.Bdot(field, *a.field, false, 4, 0, 1000)
	} else if a.auto.Mode >= 2 {
		a.out.Torque = steer.Sun(sun, rates, 0, 2, 4, 0, 1000)
	}
	a.field = &field
	a.store()
	for range min(a.c.Send, len(a.queue)) {
		r, _ := a.queue[0].Bytes()
		b, _ := packet.Packet{Apid: a.c.Apid, Count: uint16(a.packets), Data: r}.Bytes()
		a.out.Telemetry = append(a.out.Telemetry, b)
		a.queue, a.packets = a.queue[1:], (a.packets+1)%16384
	}
	if in.Reset == 3 {
		a.reset()
	}
	a.out.Mode = a.auto.Mode
	return a.out
}

func (a *account) store() {
	if now := a.context().Bytes(); !slices.Equal(now, a.written) && a.m.Begin(now) == api.OK {
		a.written = now
	}
	if a.in.Reset == 2 {
		a.reset()
	} else {
		a.m.Finish()
	}
	if a.c.Scrub > 0 && a.time%int(a.c.Scrub) == 0 {
		if n, err := a.m.Scrub(); err != api.OK {
			a.event(6, 3, 0)
			a.fill()
		} else if n > 0 {
			a.event(7, 0, n)
		}
	}
}

func (a *account) stepUnits() {
	for u := range a.units {
		d, ack, well := &a.units[u], a.in.Acks>>u&1 == 1, a.in.Well>>u&1 == 1
		switch {
		case d.state == 's' && ack:
			*d = device{state: 'w'}
		case d.state == 's' && d.left > 0:
			d.left--
		case d.state == 'w' && ack && well:
			d.bad = 0
		case d.state == 'w' && d.bad < int(a.c.Units[u].Tolerate):
			d.bad++
		case d.state == 's' || d.state == 'w':
			*d = device{state: 'l'}
			a.event(1, 3, u)
			a.failed[u] = true
		}
	}
}

// kinds are the kinds of commands, and how many bytes of data they have.
var kinds = map[verify.Kind]int{
	{Service: 3, Sub: 27}: 0, {Service: 12, Sub: 1}: 1, {Service: 12, Sub: 2}: 1, {Service: 12, Sub: 7}: 19, {Service: 17, Sub: 1}: 0,
	{Service: 19, Sub: 1}: 4, {Service: 19, Sub: 2}: 1, {Service: 19, Sub: 4}: 1, {Service: 19, Sub: 5}: 1, {Service: 19, Sub: 8}: 0, {Service: 19, Sub: 9}: 0,
	{Service: 128, Sub: 1}: 1, {Service: 128, Sub: 2}: 1, {Service: 128, Sub: 3}: 1, {Service: 128, Sub: 4}: 1,
	{Service: 128, Sub: 5}: 1, {Service: 128, Sub: 6}: 1, {Service: 128, Sub: 7}: 1, {Service: 128, Sub: 8}: 1,
}

// known is the table of these.
func known() verify.Table {
	t := verify.Table{}
	for k, n := range kinds {
		t[k] = verify.Form{Least: n, Most: n}
	}
	return t
}

func (a *account) command(tc []byte) {
	v := verify.Judge(tc, a.c.Apid, known())
	number := four(int(v.ID))
	if v.Code != 0 {
		a.report(1, 2, append(number, v.Code))
		return
	}
	if v.Command.Acks&1 == 1 {
		a.report(1, 1, number)
	}
	err := a.execute(int(v.Command.Service), int(v.Command.Sub), v.Command.Data)
	if err != api.OK {
		a.report(1, 8, append(number, byte(err)))
	} else if v.Command.Acks&8 == 8 {
		a.report(1, 7, number)
	}
}

func (a *account) execute(service, sub int, data []byte) api.Errno {
	arg := 0
	if len(data) > 0 {
		arg = int(data[0])
	}
	switch service {
	case 17:
		a.report(17, 2, nil)
		return api.OK
	case 3:
		var l []byte
		for _, n := range a.in.Params {
			l = append(l, four(int(n))...)
		}
		a.report(3, 25, l)
		return api.OK
	case 12:
		return a.commandRule(sub, arg, data)
	case 19:
		return a.commandRows(sub, data)
	}
	switch {
	case sub == 1:
		var err api.Errno
		a.auto, err = a.auto.Ask(a.c.Modes, byte(arg))
		return err
	case sub <= 5 && arg >= len(a.units), sub == 6 && arg > 5, sub >= 7 && arg > 4:
		return api.ErrIndex
	case sub == 2:
		a.failed[arg] = false
		a.counts = [5]int{}
	case sub == 3:
		a.failed[arg] = true
	case sub == 4, sub == 5:
		a.held[arg] = sub == 4
	case sub == 6:
		a.retries[arg] = 0
		a.spent = false
	default:
		a.muted[arg] = sub == 7
	}
	return api.OK
}

func (a *account) commandRule(sub, arg int, data []byte) api.Errno {
	if sub == 7 {
		d, err := check.Parse(data[1:])
		if err != api.OK {
			return err
		}
		if arg >= len(a.rules) {
			return api.ErrIndex
		}
		r := a.rules[arg].Rule
		r.Def = d
		a.rules[arg] = watched{Rule: r}
		return api.OK
	}
	if arg >= len(a.rules) {
		return api.ErrIndex
	}
	if r := a.rules[arg].Rule; r.Enabled != (sub == 1) {
		r.Enabled = sub == 1
		a.rules[arg] = watched{Rule: r}
	}
	return api.OK
}

func (a *account) commandRows(sub int, data []byte) api.Errno {
	switch sub {
	case 8, 9:
		a.rowsOff = sub == 9
		return api.OK
	case 1:
		_, has := a.rows[data[0]]
		switch {
		case data[3] > 1:
			return api.ErrForm
		case data[1] > 5 || data[2] > 15:
			return api.ErrArg
		case !has && len(a.rows) == 16:
			return api.ErrFull
		}
		a.rows[data[0]] = action.Row{Event: data[0], Kind: data[1], Arg: data[2], Enabled: data[3] == 1}
		return api.OK
	}
	r, has := a.rows[data[0]]
	if !has {
		return api.ErrNone
	}
	if sub == 2 {
		delete(a.rows, data[0])
	} else {
		r.Enabled = sub == 4
		a.rows[data[0]] = r
	}
	return api.OK
}

func (a *account) watch() {
	for i := range a.rules {
		w := &a.rules[i]
		if !w.Enabled {
			continue
		}
		now, before := a.in.Params[w.Def.Param], int32(0)
		if len(w.values) > 0 {
			before = w.values[len(w.values)-1]
		}
		w.found = append(w.found, w.Def.Look(now, before, len(w.values) == 0))
		w.values = append(w.values, now)
		last, times := w.found[len(w.found)-1], 0
		for k := len(w.found) - 1; k >= 0 && w.found[k] == last; k-- {
			times++
		}
		if last == 0 || last == w.status || times < int(w.Repeat) {
			continue
		}
		a.report(12, 12, slices.Concat([]byte{byte(i), w.status, last}, four(int(now))))
		w.status = last
		if last < 2 {
			continue
		}
		a.event(w.Event, 2, i)
		row, has := a.rows[w.Event]
		if !has || !row.Enabled || a.rowsOff {
			continue
		}
		switch row.Kind {
		case 2:
			a.power(false, int(row.Arg))
		case 3:
			a.failed[row.Arg] = true
		case 4:
			a.alarms = append(a.alarms, [3]int{1, int(row.Arg), int(w.Event)})
		case 5:
			a.alarms = append(a.alarms, [3]int{2, -1, int(w.Event)})
		}
	}
}

func (a *account) violated() []int {
	var l []int
	for i, w := range a.rules {
		if w.Enabled && w.status >= 2 {
			l = append(l, i)
		}
	}
	return l
}

func (a *account) react() {
	for _, i := range a.violated() {
		a.alarms = append(a.alarms, [3]int{int(a.rules[i].Level), a.rules[i].Unit, int(a.rules[i].Event)})
	}
	if a.in.Watchdog {
		a.alarms = append(a.alarms, [3]int{3, -1, 2})
	}
	if a.in.Hardware {
		a.alarms = append(a.alarms, [3]int{4, -1, 3})
	}
	worst := [3]int{-1}
	for _, x := range a.alarms {
		if !a.muted[x[0]] && x[0] > worst[0] {
			worst = x
		}
	}
	if worst[0] == -1 {
		a.counts = [5]int{}
		return
	}
	if a.phase != 0 && worst[0] < 2 {
		return
	}
	acts := -1
	for l := worst[0]; l <= 4 && acts == -1; l++ {
		if !a.muted[l] && a.counts[l] < int(a.c.Ladder[l]) {
			acts = l
		}
	}
	for l := 4; l >= worst[0] && acts == -1; l-- {
		if !a.muted[l] {
			acts = l
		}
	}
	a.counts[acts] = min(a.counts[acts]+1, 255)
	a.event(4, 3, acts)
	u := worst[1]
	switch acts {
	case 0:
		if a.powered(u) {
			a.power(false, u)
			if !a.failed[u] && !a.held[u] {
				a.power(true, u)
			}
		}
	case 1:
		if u >= 0 {
			a.failed[u] = true
		}
	default:
		a.safe = true
		if acts > 2 {
			a.stop()
		}
	}
}

func (a *account) bad(u int8) bool { return u >= 0 && (a.failed[u] || a.held[u]) }

// near is the wanted chain: of all chains, one by one.
func (a *account) near() ([6]int8, bool) {
	best, found, fewest := emptyChain, false, 99
	var try func(c [6]int8, role int)
	try = func(c [6]int8, role int) {
		if role == len(a.c.Map.Roles) {
			differ := 0
			for r := range c {
				if c[r] != a.chain[r] {
					differ++
				}
			}
			if differ < fewest {
				best, found, fewest = c, true, differ
			}
			return
		}
		for u := range int8(16) {
			if a.c.Map.Roles[role].Units>>u&1 == 1 && !a.bad(u) && (role == 0 || a.c.Map.Links[c[role-1]]>>u&1 == 1) {
				c[role] = u
				try(c, role+1)
			}
		}
	}
	try(emptyChain, 0)
	return best, found
}

func (a *account) switchOver() {
	if a.phase != 0 && slices.ContainsFunc(a.to[:], a.bad) {
		a.stop()
	}
	if a.phase != 0 {
		a.continued()
		return
	}
	wanted, ok := a.near()
	if ok && wanted == a.to {
		a.spent = false
		return
	}
	retries := a.retries
	for r := range 6 {
		if ok && wanted[r] != a.chain[r] && a.chain[r] != -1 {
			retries[r]++
		}
	}
	for r := range 6 {
		ok = ok && (retries[r] == a.retries[r] || retries[r] <= int(a.c.Limits[r]))
	}
	if !ok {
		if !a.spent {
			a.spent, a.safe = true, true
			a.event(9, 3, 0)
		}
		return
	}
	a.retries, a.spent = retries, false
	a.phase, a.from, a.to = 1, a.to, wanted
	for u := range a.units {
		if in(wanted, u) && !a.powered(u) {
			a.power(true, u)
		}
	}
}

// continued is one more cycle of the switch-over.
func (a *account) continued() {
	switch a.phase {
	case 1:
		ready, lost := true, false
		for u, d := range a.units {
			if in(a.to, u) {
				ready = ready && d.state == 'w'
				lost = lost || d.state == 'l'
			}
		}
		if lost {
			for u, d := range a.units {
				if in(a.to, u) && d.state == 'l' {
					a.failed[u] = true
				}
				if in(a.to, u) && !in(a.from, u) {
					a.power(false, u)
				}
			}
			a.phase, a.to = 0, a.from
		} else if ready {
			a.phase = 2
		}
	case 2:
		a.phase = 3
	case 3:
		for u := range a.units {
			if in(a.from, u) && !in(a.to, u) {
				a.power(false, u)
			}
		}
		a.phase, a.from, a.chain = 0, a.to, a.to
		a.event(8, 0, 0)
	}
}

// same checks an executive against its account.
func same(t *testing.T, e *exec.Exec, a *account, got, want exec.Output) {
	t.Helper()
	for _, x := range []struct {
		what      string
		got, want any
	}{
		{"output", got, want}, {"context", e.Context(), a.context()}, {"memory", e.Memory().Copies(), a.m.Copies()},
		{"chain", [6]int8(e.Chain()), a.active()}, {"busy", e.Busy(), a.phase != 0}, {"mode", e.Mode(), a.auto.Mode}, {"time", int(e.Time()), a.time},
		{"log", e.Log(), a.log}, {"queue", e.Queue(), a.queue}, {"dropped", e.Dropped(), a.dropped}, {"violated", e.Violated(), a.violated()},
	} {
		if !reflect.DeepEqual(x.got, x.want) && fmt.Sprint(x.got) != fmt.Sprint(x.want) {
			t.Fatalf("cycle %d: %s: %v, want %v (%+v, phase %d)", a.time, x.what, x.got, x.want, a.in, a.phase)
		}
	}
}

// anyConfig is one of all kinds.
func anyConfig(draw func(int) int) exec.Config {
	units := 4 + draw(13)
	if draw(12) == 0 {
		units = draw(4)
	}
	c := exec.Config{Apid: uint16(draw(2048)), Room: 1 + draw(16), Send: draw(8), Scrub: uint8(draw(6))}
	for range units {
		c.Units = append(c.Units, unit.Rule{Wait: uint8(draw(4)), Tolerate: uint8(draw(3))})
	}
	roles := draw(7)
	c.Map.Roles = make([]strap.Role, roles)
	for u := range units {
		if role := draw(7); role < roles || roles > 0 && draw(3) > 0 {
			role %= roles
			c.Map.Roles[role].Units = c.Map.Roles[role].Units.With(u)
		}
		c.Map.Links[u] = bits.Set(draw(65536) | draw(65536) | draw(65536))
	}
	for i := range 6 {
		c.Limits[i] = uint8(draw(9))
	}
	c.Ladder = [5]uint8{uint8(draw(4)), uint8(draw(3)), uint8(draw(3)), uint8(draw(3)), uint8(draw(3))}
	c.Modes = mode.Config{Calm: uint8(draw(4)), Seen: uint8(draw(4)), Lost: uint8(draw(4)), Timeout: [4]uint16{9, uint16(draw(30)), uint16(draw(30)), 9}}
	for range draw(8) + draw(2)*draw(9) {
		d := anyDef(draw)
		c.Mons = append(c.Mons, monitor.Rule{Def: d, Repeat: uint8(1 + draw(3)), Event: uint8(20 + draw(12)), Level: uint8(draw(3) * draw(3)), Unit: draw(17) - 1, Enabled: draw(6) > 0})
	}
	for range draw(7) + draw(2)*draw(9) {
		c.Acts = append(c.Acts, action.Row{Event: uint8(20 + draw(12)), Kind: byte(draw(6)), Arg: uint8(draw(16)), Enabled: draw(5) > 0})
	}
	return c
}

// anyDef is a definition that is Right, of a parameter behind those that the
// control goes by, or of one of these.
func anyDef(draw func(int) int) check.Def {
	d := check.Def{Kind: byte(draw(3)), Param: 9 + draw(7), Low: int32(-1 - draw(3)), High: int32(2 + draw(4)), Mask: uint32(draw(4)) << 4, Want: uint32(draw(2)) << 4}
	if draw(8) == 0 {
		d.Param = draw(9)
	}
	return d
}

// weather is what comes from the world: things go on as they are for a while.
type weather struct {
	draw  func(int) int
	c     exec.Config
	in    exec.Input
	quiet int // how seldom things go wrong
}

// clear is weather in which nothing has gone wrong yet.
func clear(draw func(int) int, c exec.Config) weather {
	return weather{draw: draw, c: c, in: exec.Input{Acks: every, Well: every}, quiet: 1 + draw(2)*draw(40)}
}

// next is what comes in one more cycle.
func (w *weather) next() exec.Input {
	draw := w.draw
	in := &w.in
	for i := range in.Params {
		switch {
		case draw(5) > 0:
		case i < 3:
			in.Params[i] += int32(draw(401) - 200)
		case i < 6:
			in.Params[i] = []int32{0, 0, 100, -100, 101, -2147483648}[draw(6)]
		case i < 9:
			in.Params[i] = []int32{0, 300, 499, 500, -500, 501}[draw(6)]
		case draw(w.quiet) == 0:
			in.Params[i] = []int32{0, 0, 0, 1, 1, 16, 6, -9}[draw(8)]
		default:
			in.Params[i] = int32(draw(2))
		}
	}
	in.Acks, in.Well = in.Acks|bits.Set(draw(65536)), in.Well|bits.Set(draw(65536))
	for draw(3+w.quiet) == 0 {
		in.Acks = in.Acks.Without(draw(16))
	}
	for draw(4+w.quiet) == 0 {
		in.Well = in.Well.Without(draw(16))
	}
	in.Watchdog, in.Hardware = draw(60+9*w.quiet) == 0, draw(90+9*w.quiet) == 0
	in.Reset = 0
	if draw(40) == 0 {
		in.Reset = []uint8{1, 2, 3, 4, 255}[draw(5)]
	}
	in.Flips = nil
	for draw(12) == 0 {
		in.Flips = append(in.Flips, exec.Flip{Copy: draw(5) - 1, At: draw(32) - 1, Mask: byte(draw(256))})
	}
	if draw(500) == 0 {
		in.Flips = append(in.Flips, exec.Flip{Copy: 1, At: 9, Mask: 3}, exec.Flip{Copy: 2, At: 9, Mask: 5})
		in.Reset = byte(draw(4))
	}
	in.Commands = nil
	for draw(2) == 0 {
		in.Commands = append(in.Commands, anyCommand(draw, w.c.Apid))
	}
	return *in
}

// anyCommand is one of all kinds, most of them good.
func anyCommand(draw func(int) int, apid uint16) []byte {
	all := [][3]int{
		{3, 27, 0}, {17, 1, 0}, {12, 1, 1}, {12, 1, 1}, {12, 2, 1}, {12, 7, 19}, {19, 1, 4}, {19, 1, 4}, {19, 2, 1}, {19, 4, 1}, {19, 5, 1}, {19, 8, 0}, {19, 8, 0}, {19, 9, 0},
		{128, 1, 1}, {128, 1, 1}, {128, 1, 1}, {128, 2, 1}, {128, 2, 1}, {128, 2, 1}, {128, 2, 1}, {128, 3, 1}, {128, 4, 1}, {128, 5, 1}, {128, 5, 1}, {128, 6, 1}, {128, 6, 1}, {128, 6, 1}, {128, 7, 1}, {128, 8, 1}, {128, 8, 1}, {128, 8, 1},
	}
	k := all[draw(len(all))]
	c := pus.Command{Acks: byte(draw(16)), Service: byte(k[0]), Sub: byte(k[1]), Source: uint16(draw(65536))}
	for range k[2] {
		c.Data = append(c.Data, byte(draw(6)))
	}
	switch {
	case k[0] == 12 && k[1] == 7:
		d := anyDef(draw)
		if draw(5) > 0 {
			copy(c.Data[1:], d.Bytes())
		}
	case k[0] == 19 && len(c.Data) > 0:
		c.Data[0] = byte(20 + draw(12) + draw(2)*draw(12))
		if k[1] == 1 {
			c.Data[3] = byte(draw(7)) / 3
		}
	case k[0] == 128 && k[1] > 1 && k[1] < 6:
		c.Data[0] = byte(draw(17))
	case k[0] == 128 && k[1] == 1 && draw(3) > 0:
		c.Data[0] = byte(1 + draw(3))
	}
	switch draw(25) {
	case 0:
		c.Data = append(c.Data, 1)
	case 1:
		c.Sub += byte(draw(9))
	case 2:
		c.Service += byte(1 + draw(9))
	case 3:
		apid = uint16(draw(2048))
	}
	tc, _ := pus.Send(apid, uint16(draw(16384)), c)
	switch draw(25) {
	case 0:
		tc[draw(len(tc))] ^= 1 << draw(8)
	case 1:
		tc = tc[:draw(len(tc))]
	}
	return tc
}

// tally counts what has happened in runs.
type tally map[string]int

// count adds what happened in a cycle that is over.
func (y tally) count(a *account, seq int) {
	for _, e := range a.log {
		if int(e.Seq) > seq && e.Event < 20 {
			y[fmt.Sprintf("event %d", e.Event)]++
			if e.Event == 4 {
				y[fmt.Sprintf("level %d", e.Data)]++
			}
		}
	}
	y[fmt.Sprintf("phase %d", a.phase)]++
	y[fmt.Sprintf("mode %d", a.auto.Mode)]++
	if a.out.Dipole != (api.Vec{}) {
		y["dipole"]++
	}
	if a.out.Torque != (api.Vec{}) {
		y["torque"]++
	}
	for _, r := range a.queue {
		y[fmt.Sprintf("report %d,%d", r.Service, r.Sub)]++
	}
}

// TestRunsAgainstPlain: long runs of cycles in which everything comes and goes,
// under configurations of all kinds, and restarts with the memory that is left.
func TestRunsAgainstPlain(t *testing.T) {
	seen := tally{}
	for n := range 400 {
		draw := draws(uint32(n))
		c := anyConfig(draw)
		e, err := exec.New(c)
		if err != api.OK {
			t.Fatal(n, err, c)
		}
		a := accounted(c)
		w := clear(draw, c)
		same(t, e, a, exec.Output{}, exec.Output{})
		for range 1 + draw(3) {
			for range 300 {
				in, seq := w.next(), a.seq
				want := a.cycle(in)
				same(t, e, a, e.Cycle(in), want)
				seen.count(a, seq)
			}
			m := guard.Of(a.m.Copies()...)
			if e, err = exec.Restart(c, m); err != api.OK || e.Memory() != m {
				t.Fatal(n, err)
			}
			a = reaccounted(c, guard.Of(a.m.Copies()...))
			same(t, e, a, exec.Output{}, exec.Output{})
		}
	}
	for _, what := range []string{
		"event 1", "event 4", "event 5", "event 6", "event 7", "event 8", "event 9", "event 10", "event 11", "level 0", "level 1", "level 2", "level 3", "level 4",
		"phase 0", "phase 1", "phase 2", "phase 3", "mode 0", "mode 1", "mode 2", "mode 3", "dipole", "torque",
		"report 1,1", "report 1,2", "report 1,7", "report 1,8", "report 3,25", "report 5,1", "report 5,2", "report 5,3", "report 5,4", "report 12,12", "report 17,2",
	} {
		if seen[what] < 100 {
			t.Errorf("%s: %d times", what, seen[what])
		}
	}
}
