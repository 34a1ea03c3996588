package exec

import (
	"aerie/action"
	"aerie/api"
	"aerie/bits"
	"aerie/check"
	"aerie/context"
	"aerie/fdir"
	"aerie/journal"
	"aerie/mode"
	"aerie/monitor"
	"aerie/packet"
	"aerie/plant"
	"aerie/pus"
	"aerie/steer"
	"aerie/strap"
)

// The places of a cycle at which a reset may occur.
const (
	resetFirst   = 1
	resetBetween = 2 // the two phases of a write
	resetLast    = 3
)

// Where the vectors begin among the parameters.
const (
	fieldParam = 0
	rateParam  = 3
	sunParam   = 6
)

// What the attitude control goes by.
const (
	calmRate   = 100 // the greatest rate that is calm
	leastSun   = 500 // the least length of the sun's direction at which it is seen
	dipoleGain = 4
	sunAxis    = 0
	sunGain    = 2
	rateGain   = 4
	fraction   = 0 // bits of the gains
	mostOutput = 1000
)

// none is what stands for a unit where there is none.
const none = -1

// cycle is a cycle of an executive that is being processed.
type cycle struct {
	*Exec
	in     Input
	out    Output
	alarms []fdir.Alarm
	safe   bool // safe mode is requested
}

// Cycle processes one control cycle.
func (e *Exec) Cycle(in Input) Output {
	if e == nil {
		return Output{}
	}
	e.time++
	c := &cycle{Exec: e, in: in}
	c.flip()
	c.stepUnits()
	c.command()
	c.watch()
	c.react()
	c.switchOver()
	c.stepMode()
	c.actuate()
	c.store()
	c.tell()
	c.out.Mode = e.Mode()
	return c.out
}

// flip inverts bits of the memory; of copies and bytes that do not exist there
// are none. Behind that is the first place for a reset.
func (c *cycle) flip() {
	for _, f := range c.in.Flips {
		c.memory.Flip(f.Copy, f.At, f.Mask)
	}
	c.resetAt(resetFirst)
}

// resetAt executes a reset if the one that comes in this cycle is here, and
// reports whether it is.
func (c *cycle) resetAt(place uint8) bool {
	if c.in.Reset != place {
		return false
	}
	c.reset()
	return true
}

// stepUnits has the units answer, or be lost.
func (c *cycle) stepUnits() {
	var lost bits.Set
	c.plant, _, lost = c.plant.Step(c.in.Acks, c.in.Well)
	for unit := range lost.All() {
		c.note(unitWasLost, journal.High, uint32(unit))
		c.context = c.context.Fail(unit)
	}
}

// watch has the monitor look at the parameters, and does what the action table
// says of what it finds.
func (c *cycle) watch() {
	var changes []monitor.Change
	c.monitor, changes = c.monitor.Step(c.in.Params)
	for _, x := range changes {
		rule := uint32(x.Rule)
		c.report(monitoring, tellChange, pus.Lay([]int{1, 1, 1, 4}, rule, uint32(x.From), uint32(x.To), uint32(x.Value)))
		if check.Violates(x.To) {
			r, _ := c.monitor.Rule(x.Rule)
			c.note(r.Event, journal.Medium, rule)
			c.act(r.Event)
		}
	}
}

// act does what the action table says of an event.
func (c *cycle) act(event uint8) {
	// Without a row, it is one of nothing.
	row, _ := c.actions.For(event)
	unit := int(row.Arg)
	switch row.Kind {
	case action.Cut:
		c.order(false, unit)
	case action.Fail:
		c.context = c.context.Fail(unit)
	case action.Turn:
		c.alarm(api.Function, unit, event)
	case action.GoSafe:
		c.alarm(api.System, none, event)
	}
}

// react has a level react to the worst alarm there is. A level that acts upon
// units waits for the end of a switch-over.
func (c *cycle) react() {
	for _, i := range c.monitor.Violated() {
		r, _ := c.monitor.Rule(i)
		c.alarm(r.Level, r.Unit, r.Event)
	}
	if c.in.Watchdog {
		c.alarm(api.Watchdog, none, watchdogEvent)
	}
	if c.in.Hardware {
		c.alarm(api.Alarm, none, hardwareEvent)
	}
	worst, ok := fdir.Pick(c.context.Inhibit, c.alarms...)
	switch {
	case !ok:
		c.ladder = c.ladder.Calm()
	case worst.Level >= api.System || !c.Busy():
		c.raise(worst)
	}
}

// raise has the ladder's level react to an alarm.
func (c *cycle) raise(worst fdir.Alarm) {
	var acts fdir.Alarm
	c.ladder, acts, _ = c.ladder.Raise(worst, c.context.Inhibit)
	c.note(levelActs, journal.High, uint32(acts.Level))
	switch acts.Level {
	case api.Unit:
		c.again(acts.Unit)
	case api.Function:
		// An alarm of no unit fails none.
		c.context = c.context.Fail(acts.Unit)
	case api.System:
		c.safe = true
	case api.Watchdog, api.Alarm:
		c.safe = true
		c.stop()
	}
}

// again powers a unit off and, unless it is bad, on again. One that isn't
// powered is left alone.
func (c *cycle) again(unit int) {
	if !c.plant.Powered().Has(unit) {
		return
	}
	c.order(false, unit)
	if !c.bad().Has(unit) {
		c.order(true, unit)
	}
}

// switchOver continues the switch-over that is in progress, or begins the one
// that is needed. One to a chain that has become bad is given up.
func (c *cycle) switchOver() {
	if c.Busy() && c.turn.To.Units().And(c.bad()) != 0 {
		c.stop()
	}
	if c.Busy() {
		c.proceed()
		return
	}
	wanted, ok := c.config.Map.Near(c.context.Chain, c.bad())
	switch {
	case !ok:
		c.exhaust()
	case wanted == c.Chain():
		c.context.Exhausted = false
	default:
		c.begin(wanted)
	}
}

// proceed continues the switch-over.
func (c *cycle) proceed() {
	next, step := c.turn.Next(c.plant.Works(), c.plant.Lost())
	c.turn = next
	c.order(false, step.Off...)
	c.context.Failed = c.context.Failed.Or(step.Failed)
	if step.Done {
		c.context.Chain = next.To
		c.note(chainTaken, journal.Info, 0)
	}
}

// begin begins a switch-over to this chain, if the roles for which that takes
// the place of a unit may be switched over once more.
func (c *cycle) begin(wanted strap.Chain) {
	var roles []int
	for _, role := range wanted.Differs(c.context.Chain) {
		if c.context.Chain[role] != none {
			roles = append(roles, role)
		}
	}
	spent, ok := c.config.Limits.Spend(c.context, roles...)
	if !ok {
		c.exhaust()
		return
	}
	c.context = spent
	c.context.Exhausted = false
	begun, step, _ := c.turn.Start(wanted, c.plant.Powered())
	c.turn = begun
	c.order(true, step.On...)
}

// exhaust notes that no chain is left, and requests safe mode: once, until one
// is left again.
func (c *cycle) exhaust() {
	if c.context.Exhausted {
		return
	}
	c.context.Exhausted = true
	c.note(noChainLeft, journal.High, 0)
	c.safe = true
}

// stepMode has the mode follow from what is sensed and what is requested.
func (c *cycle) stepMode() {
	calm := steer.Calm(c.vector(rateParam), calmRate)
	seen := steer.Seen(c.vector(sunParam), leastSun)
	next, what := c.auto.Step(c.config.Modes, calm, seen, c.safe)
	c.auto = next
	if what != mode.Stays {
		c.note(modeChanged, journal.Low, uint32(next.Mode))
	}
}

// actuate has the present mode's actuators work.
func (c *cycle) actuate() {
	field := c.vector(fieldParam)
	switch c.auto.Mode {
	case api.Detumble:
		c.out.Dipole = steer.Bdot(field, c.field, !c.sensed, dipoleGain, fraction, mostOutput)
	case api.Sun, api.Nominal:
		c.out.Torque = steer.Sun(c.vector(sunParam), c.vector(rateParam), sunAxis, sunGain, rateGain, fraction, mostOutput)
	}
	c.field, c.sensed = field, true
}

// store writes the context into the memory if it isn't there already, and
// scrubs the memory when it is time.
func (c *cycle) store() {
	now := c.Context()
	if !context.Same(now, c.written) && c.memory.Begin(now.Bytes()) == api.OK {
		c.written = now
	}
	if !c.resetAt(resetBetween) {
		c.memory.Finish()
	}
	if c.config.Scrub != 0 && c.time%uint32(c.config.Scrub) == 0 {
		c.scrub()
	}
}

// scrub repairs the memory, or fills it anew if there is nothing left of it.
func (c *cycle) scrub() {
	repaired, err := c.memory.Scrub()
	switch {
	case err != api.OK:
		c.note(memoryWasLost, journal.High, 0)
		c.written = c.Context()
		c.memory.Fill(c.written.Bytes())
	case repaired > 0:
		c.note(memoryRepaired, journal.Info, uint32(repaired))
	}
}

// tell sends the oldest reports. Behind that is the last place for a reset.
func (c *cycle) tell() {
	for _, r := range c.queue.Take(c.config.Send) {
		// No report is too long for a packet.
		p, _ := pus.Tell(c.config.Apid, c.packets, r)
		c.out.Telemetry = append(c.out.Telemetry, p)
		c.packets = packet.Next(c.packets)
	}
	c.resetAt(resetLast)
}

// alarm adds an alarm to those of this cycle.
func (c *cycle) alarm(level uint8, unit int, event uint8) {
	c.alarms = append(c.alarms, fdir.Alarm{Level: level, Unit: unit, Event: event})
}

// order orders units on, or off.
func (c *cycle) order(on bool, units ...int) {
	next, issued := c.plant.Order(on, units...)
	c.plant = next
	c.issue(issued)
}

// stop gives up a switch-over that is in progress, and powers off what is not
// in the active chain.
func (c *cycle) stop() {
	if !c.Busy() {
		return
	}
	c.turn = c.turn.Stop()
	next, issued := c.plant.Only(c.Chain().Units())
	c.plant = next
	c.issue(issued)
}

// issue tells of orders.
func (c *cycle) issue(l []plant.Order) { c.out.Orders = append(c.out.Orders, l...) }

// bad returns the units that may not be used: those that have failed, or are
// inhibited.
func (c *cycle) bad() bits.Set { return c.context.Failed.Or(c.context.Inhibited) }

// vector returns the three parameters from this one on.
func (c *cycle) vector(from int) api.Vec {
	p := c.in.Params
	return api.Vec{p[from], p[from+1], p[from+2]}
}
