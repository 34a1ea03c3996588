package exec_test

import (
	"fmt"
	"slices"
	"testing"

	"aerie/action"
	"aerie/api"
	"aerie/bits"
	"aerie/check"
	"aerie/context"
	"aerie/exec"
	"aerie/monitor"
	"aerie/packet"
	"aerie/pus"
	"aerie/retry"
	"aerie/strap"
	"aerie/verify"
)

// commanded is a configuration with three rules and two rows.
func commanded() exec.Config {
	return with(func(c *exec.Config) {
		c.Mons = []monitor.Rule{limit(9, 20, 0, -1), limit(10, 21, 0, -1), limit(11, 22, 0, -1)}
		c.Mons[2].Enabled = false
		c.Acts = []action.Row{{Event: 20, Kind: action.Fail, Arg: 7, Enabled: true}, {Event: 21, Kind: action.Fail, Arg: 6}}
	})
}

// answers checks what service 1 reports of one command that requests both of
// its reports: that it is done, or that it is accepted and fails.
func (x *craft) answers(err api.Errno, service, sub byte, data ...byte) {
	x.t.Helper()
	x.tc(service, sub, data...)
	x.run(1)
	want := []string{"1:" + id, "7:" + id}
	if err != api.OK {
		want[1] = fmt.Sprintf("8:%s%02x", id, int(err))
	}
	if got := x.service(1); !slices.Equal(got, want) {
		x.t.Errorf("%d,%d %x: %v, want %v", service, sub, data, got, want)
	}
}

// TestCommandErrors: of each command, each error, and what it answers where it
// is right.
func TestCommandErrors(t *testing.T) {
	right := check.Def{Kind: check.Delta, Param: 15, Low: -3, High: 9, Mask: 1, Want: 2}.Bytes()
	wrong := slices.Clone(right)
	wrong[0] = 3
	high := slices.Clone(right)
	high[1] = 16
	ends := slices.Clone(right)
	copy(ends[2:], []byte{0, 0, 0, 10})
	def := func(rule byte, d []byte) []byte { return append([]byte{rule}, d...) }
	for _, x := range []struct {
		service, sub byte
		data         []byte
		err          api.Errno
	}{
		{17, 1, nil, api.OK}, {3, 27, nil, api.OK},
		{12, 1, []byte{0}, api.OK}, {12, 1, []byte{2}, api.OK}, {12, 1, []byte{3}, api.ErrIndex}, {12, 1, []byte{255}, api.ErrIndex},
		{12, 2, []byte{0}, api.OK}, {12, 2, []byte{2}, api.OK}, {12, 2, []byte{3}, api.ErrIndex}, {12, 2, []byte{255}, api.ErrIndex},
		{12, 7, def(0, right), api.OK}, {12, 7, def(2, right), api.OK}, {12, 7, def(3, right), api.ErrIndex}, {12, 7, def(255, right), api.ErrIndex},
		{12, 7, def(0, wrong), api.ErrArg}, {12, 7, def(0, high), api.ErrArg}, {12, 7, def(1, ends), api.ErrArg}, {12, 7, def(3, wrong), api.ErrArg}, {12, 7, make([]byte, 19), api.OK},
		{19, 1, []byte{1, 0, 0, 0}, api.OK}, {19, 1, []byte{255, 5, 15, 1}, api.OK}, {19, 1, []byte{20, 1, 1, 1}, api.OK},
		{19, 1, []byte{1, 6, 0, 0}, api.ErrArg}, {19, 1, []byte{1, 255, 0, 1}, api.ErrArg}, {19, 1, []byte{1, 0, 16, 0}, api.ErrArg}, {19, 1, []byte{1, 0, 255, 0}, api.ErrArg},
		{19, 1, []byte{1, 0, 0, 2}, api.ErrForm}, {19, 1, []byte{1, 0, 0, 255}, api.ErrForm}, {19, 1, []byte{1, 6, 16, 2}, api.ErrForm},
		{19, 2, []byte{20}, api.OK}, {19, 2, []byte{22}, api.ErrNone}, {19, 2, []byte{0}, api.ErrNone},
		{19, 4, []byte{21}, api.OK}, {19, 4, []byte{22}, api.ErrNone}, {19, 5, []byte{20}, api.OK}, {19, 5, []byte{255}, api.ErrNone},
		{19, 8, nil, api.OK}, {19, 9, nil, api.OK},
		{128, 1, []byte{0}, api.OK}, {128, 1, []byte{1}, api.OK}, {128, 1, []byte{2}, api.ErrState}, {128, 1, []byte{3}, api.ErrState}, {128, 1, []byte{4}, api.ErrArg}, {128, 1, []byte{255}, api.ErrArg},
		{128, 2, []byte{0}, api.OK}, {128, 2, []byte{7}, api.OK}, {128, 2, []byte{8}, api.ErrIndex}, {128, 2, []byte{15}, api.ErrIndex}, {128, 2, []byte{16}, api.ErrIndex}, {128, 2, []byte{255}, api.ErrIndex},
		{128, 3, []byte{0}, api.OK}, {128, 3, []byte{7}, api.OK}, {128, 3, []byte{8}, api.ErrIndex}, {128, 3, []byte{255}, api.ErrIndex},
		{128, 4, []byte{0}, api.OK}, {128, 4, []byte{7}, api.OK}, {128, 4, []byte{8}, api.ErrIndex}, {128, 4, []byte{255}, api.ErrIndex},
		{128, 5, []byte{0}, api.OK}, {128, 5, []byte{7}, api.OK}, {128, 5, []byte{8}, api.ErrIndex}, {128, 5, []byte{255}, api.ErrIndex},
		{128, 6, []byte{0}, api.OK}, {128, 6, []byte{3}, api.OK}, {128, 6, []byte{5}, api.OK}, {128, 6, []byte{6}, api.ErrIndex}, {128, 6, []byte{255}, api.ErrIndex},
		{128, 7, []byte{0}, api.OK}, {128, 7, []byte{4}, api.OK}, {128, 7, []byte{5}, api.ErrIndex}, {128, 7, []byte{8}, api.ErrIndex}, {128, 7, []byte{255}, api.ErrIndex},
		{128, 8, []byte{0}, api.OK}, {128, 8, []byte{4}, api.OK}, {128, 8, []byte{5}, api.ErrIndex}, {128, 8, []byte{255}, api.ErrIndex},
	} {
		c, twin := fly(t, commanded()), fly(t, commanded())
		c.answers(x.err, x.service, x.sub, x.data...)
		if x.err == api.OK {
			continue
		}
		// What ends with an error has changed nothing, now or later.
		for n := range 12 {
			if n > 0 {
				c.run(1)
			}
			twin.run(1)
			unmoved(t, c, twin)
			c.in.Params[9], c.in.Params[10], c.in.Params[11] = int32(3*n%8), int32(4*n%9), int32(5*n%7)
			twin.in.Params = c.in.Params
		}
	}
}

// TestCommandUnits: what a unit, a role and a level are that exist, with other
// numbers of units.
func TestCommandUnits(t *testing.T) {
	for _, n := range []int{0, 1, 8, 15, 16} {
		c := with(func(c *exec.Config) { c.Units, c.Map = rules(n, 0, 0), strap.Map{} })
		for arg := range 256 {
			for sub := byte(2); sub <= 8; sub++ {
				last := map[byte]int{6: 5, 7: 4, 8: 4}[sub]
				if sub < 6 {
					last = n - 1
				}
				err := api.OK
				if arg > last {
					err = api.ErrIndex
				}
				if arg < 20 || arg > 250 {
					fly(t, c).answers(err, 128, sub, byte(arg))
				}
			}
		}
	}
}

// TestAcks: which reports are requested, with and without an error.
func TestAcks(t *testing.T) {
	for acks := range byte(16) {
		start, done := acks&1 != 0, acks&8 != 0
		var want []string
		if start {
			want = append(want, "1:"+id)
		}
		x := fly(t, commanded())
		x.acked(acks, 128, 3, 8)
		x.run(1)
		if got := x.service(1); !slices.Equal(got, append(slices.Clone(want), "8:"+id+"08")) {
			t.Error(acks, got)
		}
		x.acked(acks, 128, 3, 7)
		x.run(1)
		if done {
			want = append(want, "7:"+id)
		}
		if got := x.service(1); !slices.Equal(got, want) {
			t.Error(acks, got)
		}
	}
}

// framed is a packet with these bytes of data, and a right checksum.
func framed(t *testing.T, p packet.Packet) []byte {
	t.Helper()
	b, err := p.Bytes()
	if err != api.OK {
		t.Fatal(err)
	}
	return b
}

// TestRefused: commands that are not accepted, with each code, whatever they
// request, leave everything else as it is (P3).
func TestRefused(t *testing.T) {
	good := packed(t, apid, pus.Command{Service: 128, Sub: 3, Data: []byte{0}})
	spoilt := slices.Clone(good)
	spoilt[11] ^= 1
	cut := good[:len(good)-1]
	command := func(service, sub byte, data ...byte) []byte {
		return packed(t, apid, pus.Command{Service: service, Sub: sub, Data: data})
	}
	type refusal struct {
		tc   []byte
		code byte
		id   string
	}
	l := []refusal{
		{nil, 2, "00000000"}, {[]byte{0x18}, 2, "18000000"}, {cut, 2, id}, {append(slices.Clone(good), 0), 2, id}, {good[:8], 2, id},
		{spoilt, 3, id}, {packed(t, apid+1, pus.Command{Service: 128, Sub: 3, Data: []byte{0}}), 1, "1806c000"}, {packed(t, 0, pus.Command{Service: 17, Sub: 1}), 1, "1800c000"},
		{framed(t, packet.Packet{Apid: apid, Data: []byte{0x20, 128, 3, 0, 0, 0}}), 1, "0805c000"},
		{framed(t, packet.Packet{Command: true, Apid: apid, Count: 9, Data: []byte{0x20, 128, 3, 0}}), 2, "1805c009"},
		{framed(t, packet.Packet{Command: true, Apid: apid, Data: []byte{0x10, 128, 3, 0, 0, 0}}), 2, id},
		{framed(t, packet.Packet{Command: true, Apid: apid, Data: make([]byte, 200)}), 2, id},
	}
	for _, service := range []byte{0, 1, 2, 4, 5, 6, 11, 13, 16, 18, 20, 127, 129, 255} {
		l = append(l, refusal{command(service, 1, 0), 4, id})
	}
	for _, k := range []verify.Kind{{Service: 3, Sub: 25}, {Service: 3, Sub: 26}, {Service: 3, Sub: 28}, {Service: 12, Sub: 0}, {Service: 12, Sub: 3}, {Service: 12, Sub: 6}, {Service: 12, Sub: 8}, {Service: 12, Sub: 12},
		{Service: 17, Sub: 0}, {Service: 17, Sub: 2}, {Service: 19, Sub: 0}, {Service: 19, Sub: 3}, {Service: 19, Sub: 6}, {Service: 19, Sub: 7}, {Service: 19, Sub: 10}, {Service: 128, Sub: 0}, {Service: 128, Sub: 9}, {Service: 128, Sub: 255}} {
		l = append(l, refusal{command(k.Service, k.Sub, 0), 5, id})
	}
	for k, size := range kinds {
		for _, n := range []int{0, size - 1, size + 1, size + 2, 2*size + 3, 100, 195} {
			if n != size && n >= 0 {
				l = append(l, refusal{command(k.Service, k.Sub, make([]byte, n)...), 6, id})
			}
		}
	}
	x, twin := fly(t, commanded()), fly(t, commanded())
	for n, r := range l {
		p := slices.Clone(r.tc)
		for _, z := range []*craft{x, twin} {
			z.in.Params[9], z.in.Params[10] = int32(n%8), int32(n%9)
		}
		x.in.Commands = [][]byte{p}
		x.run(1)
		twin.run(1)
		if got := x.service(1); !slices.Equal(got, []string{fmt.Sprintf("2:%s%02x", r.id, r.code)}) {
			t.Errorf("%x: %v, want code %d", r.tc, got, r.code)
		}
		unmoved(t, x, twin)
		if !slices.Equal(p, r.tc) {
			t.Error("a command was changed")
		}
	}
	// With the configuration's Apid, whatever it is.
	for _, n := range []uint16{0, 1, 2047} {
		x := fly(t, with(func(c *exec.Config) { c.Apid = n }))
		x.in.Commands = [][]byte{packed(t, n, pus.Command{Acks: 1, Service: 17, Sub: 1}), good}
		x.out = x.Cycle(x.in)
		var got []string
		for _, p := range x.out.Telemetry {
			q, _ := packet.Parse(p)
			r, _ := pus.ParseReport(q.Data)
			got = append(got, fmt.Sprintf("%d %d,%d", q.Apid, r.Service, r.Sub))
		}
		if want := []string{fmt.Sprintf("%d 1,1", n), fmt.Sprintf("%d 17,2", n), fmt.Sprintf("%d 1,2", n)}; !slices.Equal(got, want) {
			t.Error(n, got)
		}
	}
}

// TestCommandsInTurn: several in one cycle, each behind the other.
func TestCommandsInTurn(t *testing.T) {
	x := fly(t, bare())
	x.tc(128, 1, 2) // ErrState
	x.tc(128, 1, 1)
	x.tc(128, 1, 2)
	x.in.Commands = append(x.in.Commands, []byte{1, 2, 3})
	x.tc(128, 1, 3) // ErrState
	x.run(1)
	want := []string{"1:" + id, "8:" + id + "07", "1:" + id, "7:" + id, "1:" + id, "7:" + id, "2:0102030002", "1:" + id, "8:" + id + "07"}
	if got := x.service(1); !slices.Equal(got, want) || x.Mode() != api.Sun {
		t.Error(got, x.Mode())
	}
	x.tc(17, 1)
	x.acked(8, 3, 27)
	x.acked(1, 17, 1)
	x.run(1)
	x.wants("reports", x.kinds(), "1,1 17,2 1,7 3,25 1,7 1,1 17,2")
	// One undoes the other, or does it twice.
	x = fly(t, commanded())
	x.tc(19, 2, 21)
	x.tc(19, 2, 21)
	x.tc(19, 1, 21, 0, 0, 0)
	x.tc(19, 2, 21)
	x.run(1)
	if got := x.service(1); len(got) != 8 || got[3] != "8:"+id+"03" || got[7] != "7:"+id {
		t.Error(got)
	}
}

// TestPingAndHouse: their reports.
func TestPingAndHouse(t *testing.T) {
	x := fly(t, bare())
	x.in.Params = [16]int32{0, 1, -1, 2147483647, -2147483648, 256, 65536, 1 << 24, -2, 9, 10, 11, 12, 13, 14, 15}
	x.acked(0, 17, 1)
	x.acked(0, 3, 27)
	x.run(1)
	x.wants("reports", x.kinds(), "17,2 3,25")
	x.wants("ping", x.service(17)[0], "2:")
	x.wants("house", x.service(3)[0], "25:0000000000000001ffffffff7fffffff80000000000001000001000001000000fffffffe000000090000000a0000000b0000000c0000000d0000000e0000000f")
}

// TestRuleCommands: 12,1, 12,2 and 12,7.
func TestRuleCommands(t *testing.T) {
	x := fly(t, commanded())
	x.in.Params[9], x.in.Params[11] = 6, 6
	x.do(17, 1)
	violated := func(want ...int) {
		t.Helper()
		if got := x.Violated(); !slices.Equal(got, want) {
			t.Errorf("cycle %d: violated %v, want %v", x.Time(), got, want)
		}
	}
	violated(0)
	x.do(12, 1, 2)
	violated(0, 2)
	x.do(12, 2, 0)
	violated(2)
	x.do(12, 2, 2)
	violated()
	x.do(12, 1, 0)
	violated(0)
	wants := x.service(12)
	if !slices.Equal(wants, []string{"12:00000300000006"}) {
		t.Error(wants)
	}
	// Enabled already: nothing changes.
	x.do(12, 1, 0)
	violated(0)
	if got := x.service(12); len(got) != 0 {
		t.Error(got)
	}
	d := check.Def{Kind: check.Expect, Param: 12, Mask: 0xff, Want: 3}
	x.in.Params[12] = 3
	x.do(12, 7, append([]byte{0}, d.Bytes()...)...)
	violated()
	if got := x.service(12); !slices.Equal(got, []string{"12:00000100000003"}) {
		t.Error(got)
	}
	x.in.Params[12] = -1
	x.run(1)
	violated(0)
	if got := x.service(12); !slices.Equal(got, []string{"12:000104ffffffff"}) {
		t.Error(got)
	}
	// Of a rule that is not enabled, too.
	x.do(12, 7, append([]byte{2}, d.Bytes()...)...)
	violated(0)
	x.do(12, 1, 2)
	violated(0, 2)
}

// TestRowCommands: service 19.
func TestRowCommands(t *testing.T) {
	// acts tells which unit has failed, once rule 0 is found violated.
	acts := func(x *craft, want bits.Set) {
		t.Helper()
		x.in.Params[9] = 0
		x.run(1)
		x.in.Params[9] = 6
		x.run(1)
		if got := x.Context().Failed; got != want {
			t.Errorf("failed %s, want %s", got.Text(), want.Text())
		}
		x.acked(0, 128, 2, 7)
		x.acked(0, 128, 2, 0)
		x.acked(0, 128, 2, 4)
		x.run(1)
	}
	x := fly(t, commanded())
	acts(x, bits.Of(7))
	x.do(19, 5, 20)
	acts(x, 0)
	x.do(19, 4, 20)
	acts(x, bits.Of(7))
	x.do(19, 9)
	acts(x, 0)
	x.do(19, 9)
	acts(x, 0)
	x.do(19, 8)
	acts(x, bits.Of(7))
	x.do(19, 1, 20, action.Fail, 4, 1)
	acts(x, bits.Of(4))
	x.do(19, 1, 20, action.Fail, 4, 0)
	acts(x, 0)
	x.do(19, 4, 20)
	acts(x, bits.Of(4))
	x.do(19, 2, 20)
	acts(x, 0)
	x.do(19, 1, 20, action.Report, 4, 1)
	acts(x, 0)
	// Off while rows come.
	x.do(19, 9)
	x.do(19, 1, 20, action.Fail, 0, 1)
	acts(x, 0)
	x.do(19, 8)
	acts(x, bits.Of(0))
}

// TestRowsFull: 19,1 with MaxActs others.
func TestRowsFull(t *testing.T) {
	x := fly(t, with(func(c *exec.Config) { c.Acts = rows(16) }))
	x.answers(api.ErrFull, 19, 1, 17, 0, 0, 0)
	x.answers(api.ErrArg, 19, 1, 17, 6, 0, 0)
	x.answers(api.ErrForm, 19, 1, 17, 0, 0, 2)
	x.answers(api.OK, 19, 1, 16, 1, 1, 1)
	x.answers(api.OK, 19, 2, 16)
	x.answers(api.OK, 19, 1, 17, 0, 0, 0)
	x.answers(api.ErrFull, 19, 1, 16, 0, 0, 0)
}

// TestModeCommand: 128,1, through all modes. No event tells it.
func TestModeCommand(t *testing.T) {
	x := fly(t, with(func(c *exec.Config) {
		c.Units, c.Map = nil, strap.Map{}
		c.Modes.Calm, c.Modes.Timeout = 0, [4]uint16{}
	}))
	x.in.Params[6] = 500
	for _, step := range []struct {
		mode byte
		err  api.Errno
		now  byte
	}{
		{3, api.ErrState, 0}, {2, api.ErrState, 0}, {4, api.ErrArg, 0}, {1, api.OK, 1}, {1, api.OK, 1}, {3, api.ErrState, 1}, {2, api.OK, 2}, {1, api.ErrState, 2},
		// The sun was seen for two, then three cycles since.
		{3, api.ErrState, 2}, {3, api.OK, 3}, {1, api.ErrState, 3}, {2, api.OK, 2}, {0, api.OK, 0}, {0, api.OK, 0}, {255, api.ErrArg, 0},
	} {
		x.answers(step.err, 128, 1, step.mode)
		if x.Mode() != step.now || x.out.Mode != step.now || x.Context().Mode != step.now || x.wrote().Mode != step.now {
			t.Fatal(step, x.Mode(), x.out.Mode, x.Context().Mode)
		}
	}
	x.is("", "")
}

// TestContextCommands: 128,2 to 128,8 change one field of the context, in one
// place, and have no effect at once.
func TestContextCommands(t *testing.T) {
	c := with(func(c *exec.Config) { c.Map = strap.Map{} })
	x := fly(t, c)
	want := context.Default()
	is := func() {
		t.Helper()
		if x.Context() != want || x.wrote() != want || x.orders() != "" || x.noted() != "" {
			t.Errorf("cycle %d: %v, want %v", x.Time(), x.Context(), want)
			want = x.Context()
		}
	}
	for u := range byte(8) {
		x.do(128, 3, u)
		want.Failed |= 1 << u
		is()
		x.do(128, 4, u)
		want.Inhibited |= 1 << u
		is()
	}
	for u := range byte(8) {
		x.do(128, 2, u)
		want.Failed &^= 1 << u
		is()
		x.do(128, 5, u)
		want.Inhibited &^= 1 << u
		is()
	}
	for _, level := range []byte{3, 0, 4, 1, 2} {
		x.do(128, 7, level)
		want.Inhibit |= 1 << level
		is()
		x.do(128, 7, level)
		is()
	}
	for _, level := range []byte{3, 0, 4, 1, 2} {
		x.do(128, 8, level)
		want.Inhibit &^= 1 << level
		is()
		x.do(128, 8, level)
		is()
	}
	// A role's Retry, each alone.
	spent := context.Context{Retry: [6]uint8{1, 2, 3, 4, 5, 255}, Chain: [6]int8{-1, -1, -1, -1, -1, -1}}
	for role := range byte(6) {
		e, _ := exec.Restart(c, held(spent))
		x = &craft{Exec: e, t: t}
		x.do(128, 6, role)
		want = spent.Reset()
		want.Retry[role] = 0
		x.noted()
		is()
	}
}

// TestRetryCommand: 128,6 also ends Exhausted, so that event 9 comes again
// while no chain is left.
func TestRetryCommand(t *testing.T) {
	x := settled(t, with(func(c *exec.Config) { c.Limits = retry.Limits{0, 1, 1} }))
	x.noted()
	x.acked(0, 128, 3, 0)
	x.runs("9/3/0", "")
	x.do(128, 6, 1)
	x.is("9/3/0", "")
	x.do(128, 6, 5)
	x.is("9/3/0", "")
	x.runs("", "")
	if c := x.Context(); !c.Exhausted || c.Retry != [6]uint8{} {
		t.Error(c)
	}
	// With a Retry that was spent, the way is free again.
	x = settled(t, with(func(c *exec.Config) { c.Limits = retry.Limits{1, 1, 1} }))
	x.do(128, 3, 0)
	x.is("8/0/0", "+1")
	x.run(3)
	x.noted()
	x.acked(0, 128, 2, 0)
	x.acked(0, 128, 3, 1)
	x.runs("9/3/0", "")
	x.do(128, 6, 0)
	x.is("", "+0")
	if c := x.Context(); c.Exhausted || c.Retry != [6]uint8{1} {
		t.Error(c)
	}
}

// TestClearCommand: 128,2 makes the ladder Calm, also where the unit had not
// failed; it does nothing else to a unit.
func TestClearCommand(t *testing.T) {
	for _, data := range [][]byte{nil, {7}, {0}, {8}} {
		x := fly(t, with(func(c *exec.Config) {
			c.Map = strap.Map{}
			c.Mons = []monitor.Rule{limit(9, 20, 0, -1)}
			c.Ladder = [5]uint8{1, 1, 1, 1, 1}
		}))
		x.in.Params[9] = 6
		x.run(2)
		x.noted()
		if data != nil {
			x.acked(0, 128, 2, data...)
		}
		x.run(1)
		if data != nil && data[0] < 8 {
			x.is("4/3/0", "")
		} else {
			x.is("4/3/2", "")
		}
	}
	// The others do not.
	for sub := byte(3); sub <= 8; sub++ {
		x := fly(t, with(func(c *exec.Config) {
			c.Map = strap.Map{}
			c.Mons = []monitor.Rule{limit(9, 20, 0, -1)}
			c.Ladder = [5]uint8{1, 1, 1, 1, 1}
		}))
		x.in.Params[9] = 6
		x.run(2)
		x.noted()
		x.do(128, sub, 4)
		x.is("4/3/2", "")
	}
	// A unit that was lost stays lost, till it is needed.
	x := settled(t, with(func(c *exec.Config) { c.Units = rules(8, 0, 0) }))
	x.noted()
	x.in.Acks = every.Without(2)
	x.runs("1/3/2", "+3")
	x.in.Acks = every
	x.do(128, 2, 2)
	x.run(3)
	x.is("8/0/0", "")
	x.on("0 3 5 - - -", "0 3 5 - - -")
}
