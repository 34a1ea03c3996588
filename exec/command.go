package exec

import (
	"aerie/action"
	"aerie/api"
	"aerie/check"
	"aerie/pus"
	"aerie/verify"
)

// The services.
const (
	verification = 1
	housekeeping = 3
	events       = 5
	monitoring   = 12
	testing      = 17
	eventActions = 19
	supervision  = 128
)

// The subs of the commands, service by service.
const (
	askParams = 27

	enableRule  = 1
	disableRule = 2
	replaceRule = 7

	ping = 1

	addRow       = 1
	deleteRow    = 2
	enableRow    = 4
	disableRow   = 5
	switchRowsOn = 8
	switchOff    = 9

	askMode     = 1
	clearUnit   = 2
	failUnit    = 3
	holdUnit    = 4
	freeUnit    = 5
	clearRetry  = 6
	muteLevel   = 7
	unmuteLevel = 8
)

// The subs of the reports that tell no event and verify no command.
const (
	tellParams = 25
	tellChange = 12
	pong       = 2
)

const (
	defSize = 18 // the bytes of a check's definition
	rowSize = 4  // those of a row of the action table
)

// Table returns the kinds of commands that the executive knows, each with the
// one number of bytes that its data may have.
func Table() verify.Table {
	bytes := func(n int) verify.Form { return verify.Form{Least: n, Most: n} }
	return verify.Table{
		{Service: housekeeping, Sub: askParams}:    bytes(0),
		{Service: monitoring, Sub: enableRule}:     bytes(1),
		{Service: monitoring, Sub: disableRule}:    bytes(1),
		{Service: monitoring, Sub: replaceRule}:    bytes(1 + defSize),
		{Service: testing, Sub: ping}:              bytes(0),
		{Service: eventActions, Sub: addRow}:       bytes(rowSize),
		{Service: eventActions, Sub: deleteRow}:    bytes(1),
		{Service: eventActions, Sub: enableRow}:    bytes(1),
		{Service: eventActions, Sub: disableRow}:   bytes(1),
		{Service: eventActions, Sub: switchRowsOn}: bytes(0),
		{Service: eventActions, Sub: switchOff}:    bytes(0),
		{Service: supervision, Sub: askMode}:       bytes(1),
		{Service: supervision, Sub: clearUnit}:     bytes(1),
		{Service: supervision, Sub: failUnit}:      bytes(1),
		{Service: supervision, Sub: holdUnit}:      bytes(1),
		{Service: supervision, Sub: freeUnit}:      bytes(1),
		{Service: supervision, Sub: clearRetry}:    bytes(1),
		{Service: supervision, Sub: muteLevel}:     bytes(1),
		{Service: supervision, Sub: unmuteLevel}:   bytes(1),
	}
}

// command judges each command, executes those that are accepted, and reports
// what became of them.
func (c *cycle) command() {
	table := Table()
	for _, tc := range c.in.Commands {
		v := verify.Judge(tc, c.config.Apid, table)
		if verify.Wants(v, true) {
			sub, data := verify.Accepted(v)
			c.report(verification, sub, data)
		}
		// Code 0 is the only one that comes with a command.
		if v.Code != 0 {
			continue
		}
		err := c.execute(v.Command)
		if err != api.OK || verify.Wants(v, false) {
			sub, data := verify.Done(v, byte(err))
			c.report(verification, sub, data)
		}
	}
}

// execute executes a command of the table: its data have as many bytes as that
// says.
func (c *cycle) execute(cmd pus.Command) api.Errno {
	switch cmd.Service {
	case testing:
		c.report(testing, pong, nil)
	case housekeeping:
		c.report(housekeeping, tellParams, c.house())
	case monitoring:
		return c.commandRule(cmd.Sub, int(cmd.Data[0]), cmd.Data[1:])
	case eventActions:
		return c.commandRows(cmd.Sub, cmd.Data)
	case supervision:
		return c.supervise(cmd.Sub, cmd.Data[0])
	}
	return api.OK
}

// house returns the parameters, four bytes each.
func (c *cycle) house() []byte {
	var data []byte
	for _, n := range c.in.Params {
		data = append(data, pus.Lay([]int{4}, uint32(n))...)
	}
	return data
}

// commandRule executes a command to a rule of the monitor.
func (c *cycle) commandRule(sub byte, rule int, data []byte) api.Errno {
	var err api.Errno
	switch sub {
	case enableRule, disableRule:
		c.monitor, err = c.monitor.Enable(sub == enableRule, rule)
	case replaceRule:
		var d check.Def
		if d, err = check.Parse(data); err == api.OK {
			c.monitor, err = c.monitor.Replace(rule, d)
		}
	}
	return err
}

// commandRows executes a command to the action table.
func (c *cycle) commandRows(sub byte, data []byte) api.Errno {
	var err api.Errno
	switch sub {
	case addRow:
		if data[3] > 1 {
			return api.ErrForm
		}
		row := action.Row{Event: data[0], Kind: data[1], Arg: data[2], Enabled: data[3] == 1}
		c.actions, err = c.actions.Add(row)
	case deleteRow:
		c.actions, err = c.actions.Delete(data[0])
	case enableRow, disableRow:
		c.actions, err = c.actions.Enable(sub == enableRow, data[0])
	case switchRowsOn, switchOff:
		c.actions = c.actions.Switch(sub == switchRowsOn)
	}
	return err
}

// supervise executes a command of the executive's own service.
func (c *cycle) supervise(sub, arg byte) api.Errno {
	switch sub {
	case askMode:
		var err api.Errno
		c.auto, err = c.auto.Ask(c.config.Modes, arg)
		return err
	case clearRetry:
		if arg >= api.MaxRoles {
			return api.ErrIndex
		}
		c.context = c.config.Limits.Clear(c.context, int(arg))
	case muteLevel, unmuteLevel:
		if arg > api.Alarm {
			return api.ErrIndex
		}
		c.mute(sub == muteLevel, arg)
	default:
		return c.commandUnit(sub, int(arg))
	}
	return api.OK
}

// mute inhibits a level, or permits it again.
func (c *cycle) mute(on bool, level byte) {
	if on {
		c.context.Inhibit |= 1 << level
	} else {
		c.context.Inhibit &^= 1 << level
	}
}

// commandUnit executes a command to a unit. What follows from it is left to the
// steps behind.
func (c *cycle) commandUnit(sub byte, unit int) api.Errno {
	if unit >= c.plant.Len() {
		return api.ErrIndex
	}
	switch sub {
	case clearUnit:
		c.context = c.context.Clear(unit)
		c.ladder = c.ladder.Calm()
	case failUnit:
		c.context = c.context.Fail(unit)
	case holdUnit, freeUnit:
		c.context = c.context.Hold(sub == holdUnit, unit)
	}
	return api.OK
}
