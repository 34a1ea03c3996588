package monitor_test

import (
	"math"
	"slices"
	"testing"

	"aerie/api"
	"aerie/check"
	"aerie/monitor"
)

// params are the values of all parameters.
type params = [api.MaxParams]int32

// noRules are numbers that are no rule of any monitor.
var noRules = []int{math.MinInt, math.MinInt + 1, math.MinInt32, -1 << 32, -256, -16, -2, -1, 16, 17, 255, 256, 65536, math.MaxInt32, 1 << 32, 1<<32 + 1, math.MaxInt - 1, math.MaxInt}

// made is a monitor with these rules.
func made(t *testing.T, l ...monitor.Rule) monitor.Monitor {
	t.Helper()
	m, err := monitor.New(l...)
	if err != api.OK {
		t.Fatalf("New of %v: %d", l, err)
	}
	return m
}

// ruled is an enabled rule that asks for this as many times as repeat.
func ruled(d check.Def, repeat uint8) monitor.Rule {
	return monitor.Rule{Def: d, Repeat: repeat, Unit: -1, Enabled: true}
}

func limit(param int, low, high int32) check.Def {
	return check.Def{Kind: check.Limit, Param: param, Low: low, High: high}
}

func delta(param int, low, high int32) check.Def {
	return check.Def{Kind: check.Delta, Param: param, Low: low, High: high}
}

func expect(param int, mask, want uint32) check.Def {
	return check.Def{Kind: check.Expect, Param: param, Mask: mask, Want: want}
}

// some are n rules, each another one, of all kinds, every fifth one disabled.
func some(n int) []monitor.Rule {
	var l []monitor.Rule
	for i := range n {
		r := ruled(limit((i*5+3)%16, int32(-i), int32(i)), uint8(1+i%3))
		switch i % 3 {
		case 1:
			r.Def = delta(i, int32(-i)-1, 2)
		case 2:
			r.Def = expect((i+9)%16, uint32(i), uint32(i/2))
		}
		r.Event, r.Level, r.Unit, r.Enabled = uint8(100+i), uint8(i%5), i-1, i%5 != 4
		l = append(l, r)
	}
	return l
}

// wrong are definitions that are not right.
func wrong() []check.Def {
	return []check.Def{{Kind: 3}, {Kind: 255, High: 1}, {Param: -1}, {Param: 16}, {Param: math.MinInt}, {Param: math.MaxInt}, {Low: 1}, {Kind: check.Expect, Low: 1}, {Kind: check.Delta, Low: math.MaxInt32, High: math.MinInt32}}
}

// one is the values of all parameters where parameter 0 has this one.
func one(value int32) params { return params{value} }

// all are parameters that all have one value.
func all(value int32) params {
	var p params
	for i := range p {
		p[i] = value
	}
	return p
}

// steps checks what a Step tells, and returns the monitor after it.
func steps(t *testing.T, m monitor.Monitor, p params, want ...monitor.Change) monitor.Monitor {
	t.Helper()
	after, got := m.Step(p)
	if !slices.Equal(got, want) {
		t.Errorf("Step(%v) tells %v, want %v", p, got, want)
	}
	return after
}

// to is a change of rule 0.
func to(from, to byte, value int32) monitor.Change {
	return monitor.Change{Rule: 0, From: from, To: to, Value: value}
}

// runs has a monitor step through values of parameter 0, and checks the status
// of rule 0 behind each step: the digit of text at that place. It returns the
// monitor after them.
func runs(t *testing.T, m monitor.Monitor, text string, values ...int32) monitor.Monitor {
	t.Helper()
	for i, value := range values {
		before, status := m.Status(0), text[i]-'0'
		var want []monitor.Change
		if status != before {
			want = append(want, to(before, status, value))
		}
		m = steps(t, m, one(value), want...)
		if m.Status(0) != status {
			t.Errorf("step %d of %v: status %d, want %s", i, values, m.Status(0), text)
		}
	}
	return m
}

// enables checks an Enable that is done, and returns the monitor after it.
func enables(t *testing.T, m monitor.Monitor, on bool, i int) monitor.Monitor {
	t.Helper()
	after, err := m.Enable(on, i)
	if err != api.OK {
		t.Errorf("Enable(%t, %d): %d", on, i, err)
	}
	return after
}

// replaces checks a Replace that is done, and returns the monitor after it.
func replaces(t *testing.T, m monitor.Monitor, i int, d check.Def) monitor.Monitor {
	t.Helper()
	after, err := m.Replace(i, d)
	if err != api.OK {
		t.Errorf("Replace(%d, %v): %d", i, d, err)
	}
	return after
}

// holds checks all that a monitor tells of its rules and their statuses.
func holds(t *testing.T, m monitor.Monitor, rules []monitor.Rule, statuses []byte) {
	t.Helper()
	if m.Len() != len(rules) {
		t.Errorf("Len %d, want %d", m.Len(), len(rules))
	}
	var violated []int
	for i, r := range rules {
		if got, ok := m.Rule(i); got != r || !ok || m.Status(i) != statuses[i] {
			t.Errorf("rule %d is %v, %t, of status %d, want %v, of status %d", i, got, ok, m.Status(i), r, statuses[i])
		}
		if r.Enabled && statuses[i] >= 2 {
			violated = append(violated, i)
		}
	}
	if got := m.Violated(); !slices.Equal(got, violated) {
		t.Errorf("Violated %v, want %v", got, violated)
	}
	for i := len(rules); i <= api.MaxMons; i++ {
		noRule(t, m, i)
	}
	for _, i := range noRules {
		noRule(t, m, i)
	}
}

// noRule checks that a monitor tells that it has no such rule, and refuses to
// change it.
func noRule(t *testing.T, m monitor.Monitor, i int) {
	t.Helper()
	if r, ok := m.Rule(i); ok || r != (monitor.Rule{}) || m.Status(i) != 0 {
		t.Errorf("no rule %d is %v, %t, of status %d", i, r, ok, m.Status(i))
	}
	for _, on := range []bool{false, true} {
		if same, err := m.Enable(on, i); err != api.ErrIndex || same != m {
			t.Errorf("Enable(%t, %d): %d", on, i, err)
		}
	}
	if same, err := m.Replace(i, limit(15, -1, 1)); err != api.ErrIndex || same != m {
		t.Errorf("Replace(%d): %d", i, err)
	}
	if same, err := m.Replace(i, check.Def{Kind: 3}); err != api.ErrArg || same != m {
		t.Errorf("Replace(%d) with one that is not right: %d", i, err)
	}
}

// TestExample: the chapter's.
func TestExample(t *testing.T) {
	m := made(t, ruled(limit(0, 3, 5), 2))
	m = steps(t, m, one(6))
	if m.Status(0) != check.Unchecked {
		t.Error("status", m.Status(0))
	}
	m = steps(t, m, one(6), monitor.Change{Rule: 0, From: check.Unchecked, To: check.Above, Value: 6})
	if m.Status(0) != check.Above {
		t.Error("status", m.Status(0))
	}
}

func TestRight(t *testing.T) {
	right := func(r monitor.Rule, want bool) {
		t.Helper()
		if r.Right() != want {
			t.Errorf("%v.Right() = %t", r, !want)
		}
		m, err := monitor.New(r)
		if want != (err == api.OK) || !want && (err != api.ErrArg || m != (monitor.Monitor{})) {
			t.Errorf("New(%v) = %v, %d", r, m, err)
		}
	}
	base := ruled(limit(0, 3, 5), 1)
	for n := range 256 {
		r := base
		r.Repeat = uint8(n)
		right(r, n >= 1)
		r = base
		r.Level = uint8(n)
		right(r, n <= 4)
		r = base
		r.Event = uint8(n)
		right(r, true)
	}
	for n := -1; n < api.MaxUnits; n++ {
		r := base
		r.Unit = n
		right(r, true)
	}
	for _, n := range noRules {
		r := base
		r.Unit = n
		right(r, n == -1)
		r = base
		r.Def.Param = n
		right(r, false)
	}
	for param := range api.MaxParams {
		for _, d := range []check.Def{limit(param, math.MinInt32, math.MaxInt32), delta(param, -1, -1), expect(param, 0, 5)} {
			for _, on := range []bool{false, true} {
				r := monitor.Rule{Def: d, Repeat: 255, Event: 255, Level: 4, Unit: 15, Enabled: on}
				right(r, true)
				r.Repeat = 0
				right(r, false)
			}
		}
	}
	for _, d := range wrong() {
		right(ruled(d, 1), false)
	}
	right(monitor.Rule{}, false)
}

func TestNew(t *testing.T) {
	for n := range api.MaxMons + 1 {
		holds(t, made(t, some(n)...), some(n), make([]byte, n))
		for i := range n {
			for _, bad := range []monitor.Rule{{}, ruled(limit(16, 0, 0), 1), ruled(limit(0, 0, 0), 0), {Repeat: 1, Level: 5}, {Repeat: 1, Unit: -2}, {Repeat: 1, Unit: 16}} {
				l := some(n)
				l[i] = bad
				if m, err := monitor.New(l...); err != api.ErrArg || m != (monitor.Monitor{}) {
					t.Errorf("New with rule %d of %d wrong: %v, %d", i, n, m, err)
				}
			}
		}
	}
	for _, n := range []int{17, 18, 31, 32, 33, 255, 256, 257, 4096, 65536} {
		l := slices.Repeat([]monitor.Rule{ruled(limit(0, 3, 5), 1)}, n)
		if m, err := monitor.New(l...); err != api.ErrArg || m != (monitor.Monitor{}) {
			t.Errorf("New of %d rules: %v, %d", n, m, err)
		}
		l[0].Repeat, l[n-1].Repeat = 0, 0
		if m, err := monitor.New(l...); err != api.ErrArg || m != (monitor.Monitor{}) {
			t.Errorf("New of %d rules, of which two are wrong: %v, %d", n, m, err)
		}
	}
	if made(t) != (monitor.Monitor{}) || made(t, []monitor.Rule{}...) != (monitor.Monitor{}) {
		t.Error("monitors without rules differ")
	}
}

// TestZero: each function of a monitor without rules.
func TestZero(t *testing.T) {
	var m monitor.Monitor
	holds(t, m, nil, nil)
	for _, value := range []int32{math.MinInt32, -1, 0, 1, math.MaxInt32} {
		if steps(t, m, all(value)) != m {
			t.Error("Step changed it")
		}
	}
	if m.Reset() != m {
		t.Error("Reset changed it")
	}
	for i := range api.MaxMons {
		noRule(t, m, i)
	}
}

// TestRepeat: a status becomes the rule's when it was found as often as Repeat
// asks, one after the other.
func TestRepeat(t *testing.T) {
	for _, repeat := range []int{1, 2, 3, 127, 128, 254, 255} {
		m := made(t, ruled(limit(0, 3, 5), uint8(repeat)))
		status := byte(check.Unchecked)
		for _, x := range []struct {
			value int32
			to    byte
		}{{6, check.Above}, {2, check.Below}, {4, check.Within}, {9, check.Above}, {3, check.Within}} {
			for range repeat - 1 {
				m = steps(t, m, one(x.value))
				if m.Status(0) != status {
					t.Fatalf("Repeat %d: %d too early", repeat, m.Status(0))
				}
			}
			m = steps(t, m, one(x.value), to(status, x.to, x.value))
			if m.Status(0) != x.to {
				t.Fatalf("Repeat %d: %d, want %d", repeat, m.Status(0), x.to)
			}
			status = x.to
			// Found more often than Repeat asks, also more often than a byte counts.
			for range 600 {
				m = steps(t, m, one(x.value))
				if m.Status(0) != x.to {
					t.Fatalf("Repeat %d: %d, want %d still", repeat, m.Status(0), x.to)
				}
			}
		}
	}
}

// TestCandidates: each digit of a text is the status behind a step.
func TestCandidates(t *testing.T) {
	two, three := ruled(limit(0, 3, 5), 2), ruled(limit(0, 3, 5), 3)
	for _, x := range []struct {
		rule   monitor.Rule
		values []int32
		want   string
	}{
		{two, []int32{6, 6, 6}, "033"},
		{two, []int32{6, 2, 6, 2, 6, 6}, "000003"},
		{two, []int32{6, 4, 6, 6, 4, 6, 4, 4, 2, 2}, "0003333112"},
		// Another value of the same status is no other candidate.
		{two, []int32{6, 7, 2, 1, 3, 5}, "033221"},
		// The rule's own status in between: the other one counts from one again.
		{two, []int32{4, 4, 6, 4, 6, 4, 6, 6}, "01111113"},
		{three, []int32{6, 6, 2, 6, 6, 6}, "000003"},
		{three, []int32{6, 6, 6, 2, 2, 6, 2, 2, 2, 4, 4, 2, 4, 4, 4}, "003333332222221"},
		{three, []int32{4, 4, 4, 6, 6, 4, 6, 6, 6}, "001111113"},
		// Two others by turns never become it.
		{three, []int32{4, 4, 4, 6, 6, 2, 2, 6, 6, 2, 2, 6, 6}, "0011111111111"},
		{ruled(limit(0, 3, 5), 1), []int32{6, 2, 4, 4, 6, 6, 2}, "3211332"},
		{ruled(expect(0, 3, 2), 2), []int32{2, 6, -2, 3, 3, 0, 1, 2, -1, 2, 2}, "01114444441"},
		{ruled(delta(0, -1, 1), 1), []int32{5, 6, 8, 8, 5, 4}, "013121"},
		{ruled(delta(0, -1, 1), 2), []int32{5, 6, 6, 9, 9, 12, 15, 10, 5, 5, 5}, "00111133221"},
		// The least and the greatest value, whose difference is beyond 32 bits.
		{ruled(delta(0, -1, 1), 1), []int32{math.MaxInt32, math.MinInt32, math.MaxInt32, math.MaxInt32}, "0231"},
	} {
		runs(t, made(t, x.rule), x.want, x.values...)
	}
}

// TestDeltaBegins: a delta's first step after it began anew has no candidate,
// and counts for nothing.
func TestDeltaBegins(t *testing.T) {
	start := made(t, ruled(delta(0, -1, 1), 2))
	m := runs(t, start, "00", 0, 9)
	for _, anew := range []monitor.Monitor{
		enables(t, enables(t, m, false, 0), true, 0),
		replaces(t, m, 0, delta(0, -1, 1)),
		m.Reset(),
	} {
		if anew != start {
			t.Error("it is not as when it was new")
		}
		// 18 is 9 above what was seen ahead, which would be found a second time.
		anew = runs(t, anew, "00", 18, 27)
		if steps(t, anew, one(36), to(check.Unchecked, check.Above, 36)).Status(0) != check.Above {
			t.Error("status")
		}
		// 18 to 18 to 18: within, twice.
		runs(t, m.Reset(), "001", 18, 18, 18)
	}
	// A first value of 0 is a value.
	runs(t, made(t, ruled(delta(0, 1, 5), 1)), "021", 0, 0, 1)
}

// TestDeltaSees: before is the value at the last step, whatever was found.
func TestDeltaSees(t *testing.T) {
	m := made(t, ruled(delta(0, 0, 1), 255))
	for i := range int32(254) {
		m = steps(t, m, one(i))
	}
	m = steps(t, m, one(254))
	m = steps(t, m, one(255), to(check.Unchecked, check.Within, 255))
	for i := range int32(254) {
		m = steps(t, m, one(255+2*(i+1)))
	}
	m = steps(t, m, one(10000), to(check.Within, check.Above, 10000))
	if m.Status(0) != check.Above {
		t.Error("status", m.Status(0))
	}
}

// TestParams: each rule looks at its own parameter, and tells its value.
func TestParams(t *testing.T) {
	var rules []monitor.Rule
	for i := range api.MaxMons {
		rules = append(rules, ruled(limit(15-i, 0, 5), 1))
	}
	m := steps(t, made(t, rules...), all(0), each(0, 1, 0)...)
	holds(t, m, rules, slices.Repeat([]byte{1}, api.MaxMons))
	for i := range api.MaxMons {
		p := all(5)
		p[15-i] = int32(100 + i)
		statuses := slices.Repeat([]byte{1}, api.MaxMons)
		statuses[i] = 3
		holds(t, steps(t, m, p, monitor.Change{Rule: i, From: 1, To: 3, Value: int32(100 + i)}), rules, statuses)
		p[15-i] = math.MinInt32
		statuses[i] = 2
		holds(t, steps(t, m, p, monitor.Change{Rule: i, From: 1, To: 2, Value: math.MinInt32}), rules, statuses)
	}
}

// each are changes of all rules.
func each(from, to byte, value int32) []monitor.Change {
	var l []monitor.Change
	for i := range api.MaxMons {
		l = append(l, monitor.Change{Rule: i, From: from, To: to, Value: value})
	}
	return l
}

// TestManyChanges: several in one step, in increasing order; disabled rules
// have none.
func TestManyChanges(t *testing.T) {
	rules := []monitor.Rule{
		ruled(limit(3, 0, 1), 1), ruled(limit(2, 0, 1), 2), ruled(expect(1, 7, 0), 1), ruled(limit(3, 5, 9), 1),
		ruled(delta(0, 0, 0), 1), ruled(limit(2, 0, 1), 1),
	}
	rules[3].Enabled = false
	m := made(t, rules...)
	m = steps(t, m, params{10, 4, -1, 3},
		monitor.Change{Rule: 0, From: 0, To: 3, Value: 3}, monitor.Change{Rule: 2, From: 0, To: 4, Value: 4}, monitor.Change{Rule: 5, From: 0, To: 2, Value: -1})
	holds(t, m, rules, []byte{3, 0, 4, 0, 0, 2})
	m = steps(t, m, params{8, 8, -2, -4},
		monitor.Change{Rule: 0, From: 3, To: 2, Value: -4}, monitor.Change{Rule: 1, From: 0, To: 2, Value: -2}, monitor.Change{Rule: 2, From: 4, To: 1, Value: 8},
		monitor.Change{Rule: 4, From: 0, To: 2, Value: 8})
	holds(t, m, rules, []byte{2, 2, 1, 0, 2, 2})
	full := made(t, slices.Repeat([]monitor.Rule{ruled(limit(7, 1, 2), 1)}, api.MaxMons)...)
	full = steps(t, full, all(3), each(0, 3, 3)...)
	full = steps(t, full, all(0), each(3, 2, 0)...)
	steps(t, full, all(1), each(2, 1, 1)...)
}

// TestEnable: on and off from each of the two.
func TestEnable(t *testing.T) {
	rules := some(5)
	rules[1] = ruled(limit(0, 3, 5), 2)
	fresh := made(t, rules...)
	seen := fresh
	for range 2 {
		seen, _ = seen.Step(all(6))
	}
	if seen.Status(1) != check.Above || seen.Status(4) != check.Unchecked || rules[4].Enabled {
		t.Fatal("the test begins with other statuses:", seen)
	}
	// What changes nothing keeps the status and what was seen.
	for i, r := range rules {
		if enables(t, seen, r.Enabled, i) != seen || enables(t, fresh, r.Enabled, i) != fresh {
			t.Error("Enable of what it is already", i)
		}
	}
	half, _ := fresh.Step(all(6))
	half = enables(t, half, true, 1)
	half, l := half.Step(all(6))
	if half.Status(1) != check.Above || !slices.Contains(l, monitor.Change{Rule: 1, From: 0, To: 3, Value: 6}) {
		t.Error("what was seen is discarded by an Enable that changes nothing", l)
	}
	// What changes it begins anew, and is of the other rules no matter.
	for i := range rules {
		other := enables(t, seen, !rules[i].Enabled, i)
		want := slices.Clone(rules)
		want[i].Enabled = !rules[i].Enabled
		statuses := make([]byte, 5)
		for j := range rules {
			statuses[j] = seen.Status(j)
		}
		statuses[i] = 0
		holds(t, other, want, statuses)
		if enables(t, fresh, !rules[i].Enabled, i) != made(t, want...) {
			t.Error("a new monitor's rule", i)
		}
		back := enables(t, other, rules[i].Enabled, i)
		holds(t, back, rules, statuses)
		if back.Reset() != fresh || i == 4 && back != seen {
			t.Error("there and back", i)
		}
	}
}

// TestEnableAnew: a rule that was off counts from one again, and sees nothing
// while it is off.
func TestEnableAnew(t *testing.T) {
	m := runs(t, made(t, ruled(limit(0, 3, 5), 2)), "0", 6)
	off := enables(t, m, false, 0)
	if got := runs(t, off, "0000", 6, 6, 6, 6); got != off {
		t.Error("a disabled rule has seen something")
	}
	runs(t, enables(t, off, true, 0), "03", 6, 6)
	m = runs(t, m, "3", 6)
	off = enables(t, m, false, 0)
	if off.Status(0) != check.Unchecked || len(off.Violated()) != 0 {
		t.Error("disabled", off.Status(0), off.Violated())
	}
	if enables(t, off, false, 0) != off {
		t.Error("disabled twice")
	}
	runs(t, enables(t, off, true, 0), "03", 6, 6)
}

func TestReplace(t *testing.T) {
	rules := some(6)
	rules[0] = ruled(limit(0, 3, 5), 2)
	fresh := made(t, rules...)
	m := fresh
	for _, value := range []int32{6, -1, 9, 9, 6, 6} {
		m, _ = m.Step(all(value))
	}
	statuses := make([]byte, 6)
	for i := range rules {
		statuses[i] = m.Status(i)
	}
	for i := range rules {
		for _, d := range []check.Def{rules[i].Def, limit(15, -7, 7), delta(0, math.MinInt32, math.MaxInt32), expect(3, 4, 5)} {
			want, left := slices.Clone(rules), slices.Clone(statuses)
			want[i].Def, left[i] = d, 0
			after := replaces(t, m, i, d)
			holds(t, after, want, left)
			if after.Reset() != made(t, want...) {
				t.Error("Replace", i, d)
			}
		}
		for _, d := range wrong() {
			if same, err := m.Replace(i, d); err != api.ErrArg || same != m {
				t.Errorf("Replace(%d, %v): %d", i, d, err)
			}
		}
	}
	holds(t, m, rules, statuses)
	// It counts from one again, also for the same definition.
	half := runs(t, made(t, rules[0]), "0", 6)
	runs(t, replaces(t, half, 0, rules[0].Def), "03", 6, 6)
	runs(t, replaces(t, half, 0, limit(0, -1, 1)), "0331", 6, 6, 0, 0)
	// A disabled rule stays so.
	off := replaces(t, enables(t, half, false, 0), 0, limit(0, -1, 1))
	if r, ok := off.Rule(0); !ok || r.Enabled || r.Def != limit(0, -1, 1) {
		t.Error("Replace of a disabled rule", r)
	}
}

func TestReset(t *testing.T) {
	for n := range api.MaxMons + 1 {
		fresh := made(t, some(n)...)
		if fresh.Reset() != fresh {
			t.Error("Reset of a new one", n)
		}
		m := fresh
		for i := range int32(20) {
			m, _ = m.Step(all(i * i % 13))
			if m.Reset() != fresh {
				t.Fatal("Reset behind steps", n, i)
			}
		}
		rules := some(n)
		for i := range n {
			rules[i].Enabled = !rules[i].Enabled
			rules[i].Def = limit(i, 0, 9)
			m = enables(t, m, rules[i].Enabled, i)
			m = replaces(t, m, i, rules[i].Def)
			m, _ = m.Step(all(10))
		}
		if m.Reset() != made(t, rules...) {
			t.Error("Reset behind changes of the rules", n)
		}
		holds(t, m.Reset(), rules, make([]byte, n))
	}
}

// TestEqual: monitors that differ in one thing, and ones that came to the same
// by two ways.
func TestEqual(t *testing.T) {
	base := ruled(limit(0, 3, 5), 2)
	for _, change := range []func(r *monitor.Rule){
		func(r *monitor.Rule) { r.Def.Kind = check.Delta },
		func(r *monitor.Rule) { r.Def.Param = 1 },
		func(r *monitor.Rule) { r.Def.Low-- },
		func(r *monitor.Rule) { r.Def.High++ },
		func(r *monitor.Rule) { r.Def.Mask++ },
		func(r *monitor.Rule) { r.Def.Want++ },
		func(r *monitor.Rule) { r.Repeat++ },
		func(r *monitor.Rule) { r.Event++ },
		func(r *monitor.Rule) { r.Level++ },
		func(r *monitor.Rule) { r.Unit++ },
		func(r *monitor.Rule) { r.Enabled = false },
	} {
		r := base
		change(&r)
		if made(t, base) == made(t, r) || made(t, base, base) == made(t, base, r) || made(t, r) != made(t, r) {
			t.Errorf("monitors of %v and of %v", base, r)
		}
	}
	if made(t, base) == made(t, base, base) || made(t) == made(t, base) {
		t.Error("monitors of other lengths")
	}
	m := made(t, base)
	again := runs(t, m, "033", 6, 6, 6)
	if again == runs(t, m, "00", 4, 6) || again == m || again != runs(t, m, "00003", 4, 6, 4, 6, 6) {
		t.Error("two ways")
	}
	// For how long it has been the same makes no difference.
	if again != runs(t, again, "33333", 6, 6, 6, 6, 6) {
		t.Error("found once more, it is another one")
	}
}

// TestMemory: what was handed in, and what was handed out, is the caller's.
func TestMemory(t *testing.T) {
	spare := some(8)
	m := made(t, spare[:5]...)
	if !slices.Equal(spare, some(8)) {
		t.Error("New changed its argument")
	}
	clear(spare)
	holds(t, m, some(5), make([]byte, 5))
	full := made(t, slices.Repeat([]monitor.Rule{ruled(limit(7, 1, 2), 1)}, api.MaxMons)...)
	after, changes := full.Step(all(3))
	_, more := full.Step(all(3))
	clear(changes[:cap(changes)])
	if !slices.Equal(more, each(0, 3, 3)) {
		t.Error("two results share memory", more)
	}
	violated, others := after.Violated(), after.Violated()
	clear(violated[:cap(violated)])
	for i, n := range others {
		if n != i {
			t.Error("two results share memory", others)
		}
	}
	if len(others) != api.MaxMons || !slices.Equal(after.Violated(), others) {
		t.Error("Violated", others)
	}
}

// plain is one rule as the document tells it, with all values it has seen.
type plain struct {
	rule   monitor.Rule
	status byte
	values []int32
	found  []byte
}

func (p *plain) anew() { p.status, p.values, p.found = 0, nil, nil }

// step goes back over all that was found for as long as it is the same.
func (p *plain) step(now int32) bool {
	first, before := len(p.values) == 0, int32(0)
	if !first {
		before = p.values[len(p.values)-1]
	}
	candidate := p.rule.Def.Look(now, before, first)
	p.values, p.found = append(p.values, now), append(p.found, candidate)
	times := 0
	for i := len(p.found) - 1; i >= 0 && p.found[i] == candidate; i-- {
		times++
	}
	if candidate == 0 || times < int(p.rule.Repeat) || candidate == p.status {
		return false
	}
	p.status = candidate
	return true
}

// model is a monitor as the document tells it.
type model []plain

func (l model) rules() []monitor.Rule {
	var rules []monitor.Rule
	for _, p := range l {
		rules = append(rules, p.rule)
	}
	return rules
}

func (l model) statuses() []byte {
	var statuses []byte
	for _, p := range l {
		statuses = append(statuses, p.status)
	}
	return statuses
}

func (l model) step(p params) []monitor.Change {
	var changes []monitor.Change
	for i := range l {
		from := l[i].status
		if now := p[l[i].rule.Def.Param]; l[i].rule.Enabled && l[i].step(now) {
			changes = append(changes, monitor.Change{Rule: i, From: from, To: l[i].status, Value: now})
		}
	}
	return changes
}

// draws gives numbers below n, the same ones in each run.
func draws(seed uint32) func(n int) int {
	return func(n int) int {
		seed = seed*1664525 + 1013904223
		return int(seed>>8) % n
	}
}

// drawn is a definition that is right.
func drawn(draw func(n int) int) check.Def {
	low := int32(draw(7) - 3)
	return check.Def{Kind: byte(draw(3)), Param: draw(api.MaxParams), Low: low, High: low + int32(draw(3)), Mask: uint32(draw(8)), Want: uint32(draw(8))}
}

// TestAgainstPlain drives monitors of each size through long mixes of calls.
// The monitor that was there before each call is what it was.
func TestAgainstPlain(t *testing.T) {
	for n := range api.MaxMons + 1 {
		draw := draws(uint32(n))
		var l model
		for i := range n {
			l = append(l, plain{rule: monitor.Rule{Def: drawn(draw), Repeat: uint8(1 + draw(4)), Event: uint8(i), Level: uint8(draw(5)), Unit: draw(17) - 1, Enabled: draw(3) > 0}})
		}
		m := made(t, l.rules()...)
		var p params
		for step := range 1200 {
			before, copied, rules, statuses := m, m, l.rules(), l.statuses()
			switch i := draw(api.MaxMons + 1); {
			case draw(12) == 0 && i < n:
				on := draw(2) == 0
				if l[i].rule.Enabled != on {
					l[i].rule.Enabled = on
					l[i].anew()
				}
				m = enables(t, m, on, i)
			case draw(20) == 0 && i < n:
				l[i].rule.Def = drawn(draw)
				l[i].anew()
				m = replaces(t, m, i, l[i].rule.Def)
			case draw(100) == 0:
				for i := range l {
					l[i].anew()
				}
				m = m.Reset()
			default:
				for range draw(6) {
					p[draw(api.MaxParams)] = int32(draw(9) - 4)
				}
				m = steps(t, m, p, l.step(p)...)
			}
			holds(t, m, l.rules(), l.statuses())
			holds(t, before, rules, statuses)
			if before != copied {
				t.Error("the monitor before the call was changed")
			}
			if t.Failed() {
				t.Fatalf("%d rules, step %d", n, step)
			}
		}
	}
}
