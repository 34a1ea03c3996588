package unit_test

import (
	"testing"

	"aerie/unit"
)

// edges are the values of a rule, and of a unit's counts, that are tried with
// one another.
var edges = []uint8{0, 1, 2, 3, 127, 128, 254, 255}

// rules are all rules of edges.
func rules() []unit.Rule {
	var l []unit.Rule
	for _, wait := range edges {
		for _, tolerate := range edges {
			l = append(l, unit.Rule{Wait: wait, Tolerate: tolerate})
		}
	}
	return l
}

// off, starting, on and lost are units in these states.
func off() unit.Unit                { return unit.Unit{State: 0} }
func starting(left uint8) unit.Unit { return unit.Unit{State: 1, Left: left} }
func on(bad uint8) unit.Unit        { return unit.Unit{State: 2, Bad: bad} }
func lost() unit.Unit               { return unit.Unit{State: 3} }

// ordered checks an Order.
func ordered(t *testing.T, u unit.Unit, power bool, r unit.Rule, want unit.Unit, command bool) {
	t.Helper()
	if got, issued := u.Order(power, r); got != want || issued != command {
		t.Errorf("%v.Order(%t, %v) = %v, %t, want %v, %t", u, power, r, got, issued, want, command)
	}
}

// stepped checks a Step.
func stepped(t *testing.T, u unit.Unit, ack, well bool, r unit.Rule, want unit.Unit, became byte) {
	t.Helper()
	if got, told := u.Step(ack, well, r); got != want || told != became {
		t.Errorf("%v.Step(%t, %t, %v) = %v, %d, want %v, %d", u, ack, well, r, got, told, want, became)
	}
}

// answers are what a unit may do in a cycle: acknowledge, and be well.
func answers() [][2]bool {
	return [][2]bool{{false, false}, {false, true}, {true, false}, {true, true}}
}

// TestStates: the numbers of the states.
func TestStates(t *testing.T) {
	if unit.Off != 0 || unit.Starting != 1 || unit.On != 2 || unit.Lost != 3 {
		t.Error("states", unit.Off, unit.Starting, unit.On, unit.Lost)
	}
	if (unit.Unit{}) != off() {
		t.Error("a zero unit isn't off")
	}
}

// TestExample: the chapter's.
func TestExample(t *testing.T) {
	u, command := unit.Unit{}.Order(true, unit.Rule{})
	if u != starting(0) || !command {
		t.Error("Order", u, command)
	}
	stepped(t, u, false, true, unit.Rule{}, lost(), 2)
}

func TestOrderOn(t *testing.T) {
	for _, r := range rules() {
		ordered(t, off(), true, r, starting(r.Wait), true)
		ordered(t, lost(), true, r, starting(r.Wait), true)
		for n := range 256 {
			ordered(t, starting(uint8(n)), true, r, starting(uint8(n)), false)
			ordered(t, on(uint8(n)), true, r, on(uint8(n)), false)
		}
	}
}

func TestOrderOff(t *testing.T) {
	for _, r := range rules() {
		ordered(t, off(), false, r, off(), false)
		ordered(t, lost(), false, r, off(), true)
		for n := range 256 {
			ordered(t, starting(uint8(n)), false, r, off(), true)
			ordered(t, on(uint8(n)), false, r, off(), true)
		}
	}
}

func TestStarting(t *testing.T) {
	for _, r := range rules() {
		for left := range 256 {
			u := starting(uint8(left))
			for _, well := range []bool{false, true} {
				// It is on even if it is unwell: that is counted from then on.
				stepped(t, u, true, well, r, on(0), 1)
				if left == 0 {
					stepped(t, u, false, well, r, lost(), 2)
				} else {
					stepped(t, u, false, well, r, starting(uint8(left-1)), 0)
				}
			}
		}
	}
}

func TestOn(t *testing.T) {
	for tolerate := range 256 {
		for _, wait := range edges {
			r := unit.Rule{Wait: wait, Tolerate: uint8(tolerate)}
			for bad := range 256 {
				u := on(uint8(bad))
				stepped(t, u, true, true, r, on(0), 0)
				for _, x := range answers()[:3] {
					if bad+1 > tolerate {
						stepped(t, u, x[0], x[1], r, lost(), 2)
					} else {
						stepped(t, u, x[0], x[1], r, on(uint8(bad+1)), 0)
					}
				}
			}
		}
	}
}

func TestOffAndLostStay(t *testing.T) {
	for _, r := range rules() {
		for _, x := range answers() {
			stepped(t, off(), x[0], x[1], r, off(), 0)
			stepped(t, lost(), x[0], x[1], r, lost(), 0)
		}
	}
}

// TestWait: a unit whose acknowledgement is missing for Wait cycles is on if it
// comes in the next one, and is lost if it doesn't.
func TestWait(t *testing.T) {
	for wait := range 256 {
		r := unit.Rule{Wait: uint8(wait), Tolerate: 7}
		u, _ := lost().Order(true, r)
		for n := range wait {
			stepped(t, u, false, n%2 == 0, r, starting(uint8(wait-n-1)), 0)
			u, _ = u.Step(false, n%2 == 0, r)
		}
		stepped(t, u, true, false, r, on(0), 1)
		stepped(t, u, false, true, r, lost(), 2)
	}
}

// TestTolerate: a unit that is unwell for Tolerate cycles is on, well again or
// not, and is lost with one more.
func TestTolerate(t *testing.T) {
	for tolerate := range 256 {
		r := unit.Rule{Wait: 3, Tolerate: uint8(tolerate)}
		u, _ := starting(2).Step(true, true, r)
		for range 2 {
			for n := range tolerate {
				x := answers()[n%3]
				stepped(t, u, x[0], x[1], r, on(uint8(n+1)), 0)
				u, _ = u.Step(x[0], x[1], r)
			}
			stepped(t, u, false, true, r, lost(), 2)
			stepped(t, u, true, false, r, lost(), 2)
			stepped(t, u, true, true, r, on(0), 0)
			u, _ = u.Step(true, true, r)
		}
	}
}

// TestReached: what calls make of a zero unit is right by its rule.
func TestReached(t *testing.T) {
	for _, r := range rules() {
		seen := map[unit.Unit]bool{}
		reach := []unit.Unit{{}}
		for len(reach) > 0 {
			u := reach[0]
			reach = reach[1:]
			if seen[u] {
				continue
			}
			seen[u] = true
			if !unit.Right(u, r) {
				t.Errorf("%v is not right by %v", u, r)
			}
			for _, x := range answers() {
				after, _ := u.Step(x[0], x[1], r)
				power, _ := u.Order(x[0], r)
				reach = append(reach, after, power)
			}
		}
		// Off, lost, one that starts for each Left, and one that is on for each Bad.
		if want := 2 + int(r.Wait) + 1 + int(r.Tolerate) + 1; len(seen) != want {
			t.Errorf("%v: %d units, want %d", r, len(seen), want)
		}
	}
}

// TestWithoutMeaning: Left and Bad are 0 behind every call where they have no
// meaning, even if they weren't ahead of it.
func TestWithoutMeaning(t *testing.T) {
	r := unit.Rule{Wait: 5, Tolerate: 6}
	for _, left := range edges {
		for _, bad := range edges {
			offed, begun := unit.Unit{State: 0, Left: left, Bad: bad}, unit.Unit{State: 1, Left: left, Bad: bad}
			works, gone := unit.Unit{State: 2, Left: left, Bad: bad}, unit.Unit{State: 3, Left: left, Bad: bad}
			ordered(t, offed, true, r, starting(5), true)
			ordered(t, offed, false, r, off(), false)
			ordered(t, begun, true, r, starting(left), false)
			ordered(t, begun, false, r, off(), true)
			ordered(t, works, true, r, on(bad), false)
			ordered(t, works, false, r, off(), true)
			ordered(t, gone, true, r, starting(5), true)
			ordered(t, gone, false, r, off(), true)
			stepped(t, offed, true, true, r, off(), 0)
			stepped(t, gone, true, true, r, lost(), 0)
			stepped(t, begun, true, true, r, on(0), 1)
			stepped(t, works, true, true, r, on(0), 0)
			if left > 0 {
				stepped(t, begun, false, true, r, starting(left-1), 0)
			} else {
				stepped(t, begun, false, true, r, lost(), 2)
			}
			if bad < 6 {
				stepped(t, works, true, false, r, on(bad+1), 0)
			} else {
				stepped(t, works, true, false, r, lost(), 2)
			}
		}
	}
}

// TestNoSuchState: a unit in a state that doesn't exist stays in it till it is
// powered off; it isn't Off or Lost, to become Starting, and a command is
// issued, since it isn't Starting or On, or Off.
func TestNoSuchState(t *testing.T) {
	for state := 4; state < 256; state++ {
		for _, r := range rules() {
			want := unit.Unit{State: byte(state)}
			for _, u := range []unit.Unit{want, {State: byte(state), Left: 1, Bad: 2}, {State: byte(state), Left: 255, Bad: 255}} {
				ordered(t, u, true, r, want, true)
				ordered(t, u, false, r, off(), true)
				for _, x := range answers() {
					stepped(t, u, x[0], x[1], r, want, 0)
				}
			}
		}
	}
}

func TestWorksAndPowered(t *testing.T) {
	for state := range 256 {
		for _, left := range edges {
			for _, bad := range edges {
				u := unit.Unit{State: byte(state), Left: left, Bad: bad}
				if got := u.Works(); got != (state == 2) {
					t.Errorf("%v.Works() = %t", u, got)
				}
				if got := u.Powered(); got != (state == 1 || state == 2) {
					t.Errorf("%v.Powered() = %t", u, got)
				}
			}
		}
	}
}

// TestRightBounds: in each state each Left alone, and each Bad alone, from 0 to
// above what the rule allows.
func TestRightBounds(t *testing.T) {
	right := func(u unit.Unit, r unit.Rule, want bool) {
		t.Helper()
		if got := unit.Right(u, r); got != want {
			t.Errorf("Right(%v, %v) = %t", u, r, got)
		}
	}
	for _, r := range rules() {
		right(off(), r, true)
		right(lost(), r, true)
		for n := range 256 {
			v := uint8(n)
			right(starting(v), r, n <= int(r.Wait))
			right(on(v), r, n <= int(r.Tolerate))
			right(unit.Unit{State: 0, Left: v}, r, n == 0)
			right(unit.Unit{State: 0, Bad: v}, r, n == 0)
			right(unit.Unit{State: 1, Bad: v}, r, n == 0)
			right(unit.Unit{State: 2, Left: v}, r, n == 0)
			right(unit.Unit{State: 3, Left: v}, r, n == 0)
			right(unit.Unit{State: 3, Bad: v}, r, n == 0)
		}
	}
}

// TestRightOfBoth: each state with Left and Bad at once.
func TestRightOfBoth(t *testing.T) {
	for _, r := range rules() {
		for state := range 256 {
			for _, left := range edges {
				for _, bad := range edges {
					var want bool
					switch state {
					case 0, 3:
						want = left == 0 && bad == 0
					case 1:
						want = left <= r.Wait && bad == 0
					case 2:
						want = left == 0 && bad <= r.Tolerate
					}
					u := unit.Unit{State: byte(state), Left: left, Bad: bad}
					if got := unit.Right(u, r); got != want {
						t.Errorf("Right(%v, %v) = %t", u, r, got)
					}
				}
			}
		}
	}
}

func TestName(t *testing.T) {
	want := []string{"off", "starting", "on", "lost"}
	for state := range 256 {
		name := ""
		if state < len(want) {
			name = want[state]
		}
		if got := unit.Name(byte(state)); got != name {
			t.Errorf("Name(%d) = %q, want %q", state, got, name)
		}
	}
}
