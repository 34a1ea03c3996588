package exec_test

import (
	"fmt"
	"slices"
	"strings"
	"testing"

	"aerie/api"
	"aerie/bits"
	"aerie/check"
	"aerie/exec"
	"aerie/journal"
	"aerie/mode"
	"aerie/monitor"
	"aerie/packet"
	"aerie/plant"
	"aerie/pus"
	"aerie/retry"
	"aerie/strap"
	"aerie/unit"
)

const (
	every = bits.Set(0xffff)
	apid  = 5
)

// rules are of that many units that wait and tolerate as long.
func rules(n int, wait, tolerate uint8) []unit.Rule {
	return slices.Repeat([]unit.Rule{{Wait: wait, Tolerate: tolerate}}, n)
}

// linked is the map of these roles, in which each unit may work with each.
func linked(roles ...bits.Set) strap.Map {
	var m strap.Map
	for _, units := range roles {
		m.Roles = append(m.Roles, strap.Role{Units: units})
	}
	for u := range m.Links {
		m.Links[u] = every
	}
	return m
}

// limit is the rule by which this parameter ought to be from 0 to 5.
func limit(param int, event, level uint8, u int) monitor.Rule {
	return monitor.Rule{Def: check.Def{Kind: check.Limit, Param: param, Low: 0, High: 5}, Repeat: 1, Event: event, Level: level, Unit: u, Enabled: true}
}

// config is of eight units, three roles, and no rules: 0 1, 2 3 4, 5 6 take the
// roles, and 7 none. Each report goes out in the cycle in which it is made.
func config() exec.Config {
	return exec.Config{
		Units:  rules(8, 2, 1),
		Map:    linked(bits.Of(0, 1), bits.Of(2, 3, 4), bits.Of(5, 6)),
		Limits: retry.Limits{3, 3, 3, 3, 3, 3},
		Ladder: [5]uint8{2, 2, 2, 2, 2},
		Modes:  mode.Config{Calm: 3, Seen: 3, Lost: 3, Timeout: [4]uint16{0, 50, 50, 0}},
		Apid:   apid,
		Room:   16,
		Send:   16,
	}
}

// bare is config without units.
func bare() exec.Config {
	c := config()
	c.Units, c.Map = nil, strap.Map{}
	return c
}

// craft is an executive, what comes in its next cycle, and what came out of the
// last one.
type craft struct {
	*exec.Exec
	t    *testing.T
	in   exec.Input
	out  exec.Output
	seq  uint32       // the Seq of the last entry that was looked at
	told []pus.Report // the telemetry of the last cycle
	sent int          // how many packets there were before
}

// fly is a new executive, whose units all acknowledge and are well.
func fly(t *testing.T, c exec.Config) *craft {
	t.Helper()
	e, err := exec.New(c)
	if e == nil || err != api.OK {
		t.Fatalf("New: %v, %d", e, err)
	}
	return &craft{Exec: e, t: t, in: exec.Input{Acks: every, Well: every}}
}

// settled is one that has taken its first chain.
func settled(t *testing.T, c exec.Config) *craft {
	t.Helper()
	x := fly(t, c)
	x.run(4)
	if x.Busy() || x.Chain() == strap.None() {
		t.Fatal("no chain was taken")
	}
	return x
}

// run runs cycles. What comes once, comes in the first of them.
func (x *craft) run(cycles int) {
	x.t.Helper()
	for range cycles {
		x.out = x.Cycle(x.in)
		x.in.Flips, x.in.Commands, x.in.Reset, x.in.Watchdog, x.in.Hardware = nil, nil, 0, false, false
		x.told = nil
		for _, p := range x.out.Telemetry {
			got, err := packet.Parse(p)
			r, wrong := pus.ParseReport(got.Data)
			if err != api.OK || wrong != api.OK || got.Command || int(got.Count) != x.sent%16384 {
				x.t.Fatalf("packet %x, %v, behind %d", p, got, x.sent)
			}
			x.sent++
			x.told = append(x.told, r)
		}
	}
}

// tc has a command come that requests both reports.
func (x *craft) tc(service, sub byte, data ...byte) { x.acked(9, service, sub, data...) }

// acked has a command come that requests these reports.
func (x *craft) acked(acks, service, sub byte, data ...byte) {
	x.in.Commands = append(x.in.Commands, packed(x.t, apid, pus.Command{Acks: acks, Service: service, Sub: sub, Data: data}))
}

// do has one command executed in a cycle, without reports of service 1.
func (x *craft) do(service, sub byte, data ...byte) {
	x.t.Helper()
	x.acked(0, service, sub, data...)
	x.run(1)
	if n := len(x.service(1)); n > 0 {
		x.t.Fatalf("%d,%d %x: %v", service, sub, data, x.told)
	}
}

// packed is a command's packet.
func packed(t *testing.T, apid uint16, c pus.Command) []byte {
	t.Helper()
	p, err := pus.Send(apid, 0, c)
	if err != api.OK {
		t.Fatal(err)
	}
	return p
}

// id is that of the commands of apid.
const id = "1805c000"

// service are the reports of that service in the last cycle's telemetry: for
// each its sub, and its data in base 16.
func (x *craft) service(n byte) []string {
	var l []string
	for _, r := range x.told {
		if r.Service == n {
			l = append(l, fmt.Sprintf("%d:%x", r.Sub, r.Data))
		}
	}
	return l
}

// kinds are the kinds of the reports in the last cycle's telemetry.
func (x *craft) kinds() string {
	var l []string
	for _, r := range x.told {
		l = append(l, fmt.Sprintf("%d,%d", r.Service, r.Sub))
	}
	return strings.Join(l, " ")
}

// noted are the events since it was last asked: for each its number, its grade,
// and its data.
func (x *craft) noted() string {
	var l []string
	for _, e := range x.Log() {
		if e.Seq > x.seq {
			x.seq = e.Seq
			l = append(l, fmt.Sprintf("%d/%d/%d", e.Event, e.Grade, e.Data))
		}
	}
	return strings.Join(l, " ")
}

// orders are those of the last cycle.
func (x *craft) orders() string { return ordersText(x.out.Orders) }

func ordersText(orders []plant.Order) string {
	var l []string
	for _, o := range orders {
		l = append(l, map[bool]string{true: "+", false: "-"}[o.On]+fmt.Sprint(o.Unit))
	}
	return strings.Join(l, " ")
}

// chainText is a chain's units, - for none.
func chainText(c [api.MaxRoles]int8) string {
	var l []string
	for _, u := range c {
		if u == -1 {
			l = append(l, "-")
		} else {
			l = append(l, fmt.Sprint(u))
		}
	}
	return strings.Join(l, " ")
}

// wants checks a text.
func (x *craft) wants(what, got, want string) {
	x.t.Helper()
	if got != want {
		x.t.Errorf("cycle %d: %s: %q, want %q", x.Time(), what, got, want)
	}
}

// is checks what the last cycle noted, and what it ordered.
func (x *craft) is(events, orders string) {
	x.t.Helper()
	x.wants("events", x.noted(), events)
	x.wants("orders", x.orders(), orders)
}

// runs runs a cycle, and checks it.
func (x *craft) runs(events, orders string) {
	x.t.Helper()
	x.run(1)
	x.is(events, orders)
}

// on checks the active chain, and the context's.
func (x *craft) on(active, taken string) {
	x.t.Helper()
	x.wants("active chain", chainText(x.Chain()), active)
	x.wants("context's chain", chainText(x.Context().Chain), taken)
}

// entry is one that may be compared.
func entry(seq, time uint32, event, grade uint8, data uint32) journal.Entry {
	return journal.Entry{Seq: seq, Time: time, Event: event, Grade: grade, Data: data}
}

// draws gives numbers below n, the same ones in each run.
func draws(seed uint32) func(n int) int {
	return func(n int) int {
		seed = seed*1664525 + 1013904223
		return int(seed>>8) % n
	}
}
