package strap_test

import (
	"math"
	"slices"
	"testing"

	"aerie/api"
	"aerie/bits"
	"aerie/strap"
)

const every = bits.Set(0xffff)

// extremes are numbers that are no unit, each of which would be one if it were
// cut to fewer bits.
var extremes = []int{-1, -16, -15, 16, 17, 31, 64, 256, 259, 65536, 1 << 32, 1<<32 + 3, math.MinInt32, math.MaxInt32, math.MinInt, math.MinInt + 3, math.MaxInt}

// of is the map of these roles, without links.
func of(roles ...bits.Set) strap.Map {
	var m strap.Map
	for _, units := range roles {
		m.Roles = append(m.Roles, strap.Role{Units: units})
	}
	return m
}

// linked is the map of these roles, where each unit may work with each.
func linked(roles ...bits.Set) strap.Map {
	m := of(roles...)
	for unit := range m.Links {
		m.Links[unit] = every
	}
	return m
}

// sample is the map of the chapter's example.
func sample() strap.Map {
	m := of(bits.Of(1, 2), bits.Of(3, 4))
	m.Links[1] = bits.Of(4)
	m.Links[2] = bits.Of(3, 4)
	return m
}

// chain is the chain of these units, -1 behind them.
func chain(units ...int8) strap.Chain {
	c := strap.Chain{-1, -1, -1, -1, -1, -1}
	copy(c[:], units)
	return c
}

// admits checks whether a map admits a chain.
func admits(t *testing.T, name string, m strap.Map, c strap.Chain, bad bits.Set, want bool) {
	t.Helper()
	if got := m.Admits(c, bad); got != want {
		t.Errorf("%s: Admits(%v, %s) = %t", name, c, bad.Text(), got)
	}
}

// searches checks Search; no units: there is no chain, which is None.
func searches(t *testing.T, name string, m strap.Map, bad bits.Set, units ...int8) {
	t.Helper()
	if got, ok := m.Search(bad); got != chain(units...) || ok != (len(units) > 0) {
		t.Errorf("%s: Search(%s) = %v, %t, want %v", name, bad.Text(), got, ok, units)
	}
}

// nears checks Near; no units: there is no chain, which is None.
func nears(t *testing.T, name string, m strap.Map, c strap.Chain, bad bits.Set, units ...int8) {
	t.Helper()
	if got, ok := m.Near(c, bad); got != chain(units...) || ok != (len(units) > 0) {
		t.Errorf("%s: Near(%v, %s) = %v, %t, want %v", name, c, bad.Text(), got, ok, units)
	}
}

// counts checks Count.
func counts(t *testing.T, name string, m strap.Map, bad bits.Set, want int) {
	t.Helper()
	if got := m.Count(bad); got != want {
		t.Errorf("%s: Count(%s) = %d, want %d", name, bad.Text(), got, want)
	}
}

func TestExample(t *testing.T) {
	m := sample()
	searches(t, "example", m, 0, 1, 4)
	searches(t, "example, 4 bad", m, bits.Of(4), 2, 3)
	counts(t, "example", m, 0, 3)
	counts(t, "example, 4 bad", m, bits.Of(4), 1)
	for _, units := range [][]int8{{1, 4}, {2, 3}, {2, 4}} {
		admits(t, "example", m, chain(units...), 0, true)
	}
	admits(t, "not linked", m, chain(1, 3), 0, false)
	nears(t, "example", m, chain(2, 4), bits.Of(4), 2, 3)
	nears(t, "example", m, chain(2, 4), bits.Of(2), 1, 4)
	nears(t, "not linked: one other role is enough in two ways", m, chain(1, 3), 0, 1, 4)
	nears(t, "not linked: the other of these", m, chain(1, 3), bits.Of(4), 2, 3)
	nears(t, "none left", m, chain(2, 4), bits.Of(2, 4))
}

func TestNone(t *testing.T) {
	if strap.None() != (strap.Chain{-1, -1, -1, -1, -1, -1}) {
		t.Error("None:", strap.None())
	}
}

func TestRight(t *testing.T) {
	// As many roles as there may be, which have all units.
	most := []bits.Set{bits.Of(0, 6, 12), bits.Of(1, 7, 13), bits.Of(2, 8, 14), bits.Of(3, 9, 15), bits.Of(4, 10), bits.Of(5, 11)}
	for _, x := range []struct {
		name  string
		roles []bits.Set
		want  bool
	}{
		{"no roles", nil, true},
		{"one role", []bits.Set{bits.Of(1, 2)}, true},
		{"one role with all", []bits.Set{every}, true},
		{"one role without units", []bits.Set{0}, true},
		{"two roles", []bits.Set{bits.Of(1, 2), bits.Of(3, 4)}, true},
		{"two roles, all units", []bits.Set{0x00ff, 0xff00}, true},
		{"MaxRoles roles", most, true},
		{"MaxRoles roles without units", make([]bits.Set, 6), true},
		{"one more, without units", make([]bits.Set, 7), false},
		{"one more, one unit each", []bits.Set{1, 2, 4, 8, 16, 32, 64}, false},
		{"one more, which has none", []bits.Set{1, 2, 4, 8, 16, 32, 0}, false},
		{"many more", make([]bits.Set, 70000), false},
		{"a unit twice", []bits.Set{bits.Of(1, 2), bits.Of(2, 3)}, false},
		{"unit 0 twice", []bits.Set{bits.Of(0, 2), bits.Of(0, 3)}, false},
		{"unit 15 twice", []bits.Set{bits.Of(15), bits.Of(14, 15)}, false},
		{"a unit in the first and the last", []bits.Set{bits.Of(1, 7), 0, bits.Of(2), bits.Of(3), bits.Of(4), bits.Of(5, 7)}, false},
		{"a unit in the last two", []bits.Set{1, 2, 4, 8, 16, 16}, false},
		{"a role twice", []bits.Set{bits.Of(9), bits.Of(9)}, false},
		{"all, and one of them", []bits.Set{every, bits.Of(3)}, false},
		{"all, and none", []bits.Set{every, 0}, true},
		{"too many, and a unit twice", []bits.Set{1, 1, 4, 8, 16, 32, 64}, false},
	} {
		if got := of(x.roles...).Right(); got != x.want {
			t.Errorf("%s: Right = %t", x.name, got)
		}
		if got := linked(x.roles...).Right(); got != x.want {
			t.Errorf("%s, linked: Right = %t", x.name, got)
		}
	}
	if !sample().Right() {
		t.Error("the example is not Right")
	}
}

// TestRightPairs: each pair of units, in each pair of roles.
func TestRightPairs(t *testing.T) {
	for a := range 16 {
		for b := range 16 {
			for one := range 6 {
				for two := range one {
					roles := make([]bits.Set, 6)
					roles[one], roles[two] = bits.Of(a), bits.Of(b)
					if got := of(roles...).Right(); got != (a != b) {
						t.Errorf("unit %d for role %d, %d for %d: Right = %t", a, one, b, two, got)
					}
				}
			}
		}
	}
}

// TestAdmitsEach: each number for each role of a chain that is admitted.
func TestAdmitsEach(t *testing.T) {
	m := of(bits.Of(0, 5), bits.Of(1, 15), bits.Of(2))
	m.Links[0] = bits.Of(1, 15)
	m.Links[5] = bits.Of(1)
	m.Links[1] = bits.Of(2)
	m.Links[15] = bits.Of(2)
	good := chain(0, 15, 2)
	admits(t, "ordinary", m, good, 0, true)
	for n := -128; n < 128; n++ {
		for role := range 6 {
			c := good
			c[role] = int8(n)
			want := c == good || c == chain(0, 1, 2)
			admits(t, "one number", m, c, 0, want)
		}
	}
	for unit := range 16 {
		admits(t, "one bad", m, good, bits.Of(unit), !slices.Contains([]int{0, 15, 2}, unit))
	}
	admits(t, "all others bad", m, good, every.Without(0, 15, 2), true)
	admits(t, "all bad", m, good, every, false)
}

// TestLinks: a link says something from a role to the next one, and nothing
// else.
func TestLinks(t *testing.T) {
	m := of(bits.Of(0), bits.Of(1), bits.Of(2))
	m.Links[0], m.Links[1] = bits.Of(1), bits.Of(2)
	c := chain(0, 1, 2)
	admits(t, "both links", m, c, 0, true)
	for from := range 16 {
		for to := range 16 {
			less, more := m, m
			less.Links[from] = less.Links[from].Without(to)
			more.Links[from] = more.Links[from].With(to)
			needed := from == 0 && to == 1 || from == 1 && to == 2
			admits(t, "one link less", less, c, 0, !needed)
			admits(t, "one link more", more, c, 0, true)
			if needed {
				searches(t, "one link less", less, 0)
				nears(t, "one link less", less, c, 0)
				counts(t, "one link less", less, 0, 0)
			} else {
				searches(t, "one link less", less, 0, 0, 1, 2)
				counts(t, "one link less", less, 0, 1)
			}
			searches(t, "one link more", more, 0, 0, 1, 2)
			counts(t, "one link more", more, 0, 1)
		}
	}
	back := of(bits.Of(0), bits.Of(1))
	back.Links[1] = bits.Of(0)
	admits(t, "linked the other way", back, chain(0, 1), 0, false)
	searches(t, "linked the other way", back, 0)
	over := of(bits.Of(0), bits.Of(1), bits.Of(2))
	over.Links[0] = bits.Of(0, 2)
	over.Links[1] = bits.Of(0, 1, 2)
	over.Links[2] = every
	admits(t, "linked with the role after the next", over, chain(0, 1, 2), 0, false)
	searches(t, "linked with the role after the next", over, 0)
}

func TestWithoutRoles(t *testing.T) {
	for _, m := range []strap.Map{{}, of(), linked(), {Roles: []strap.Role{}}} {
		for _, bad := range []bits.Set{0, 1, bits.Of(3, 15), every} {
			admits(t, "None", m, strap.None(), bad, true)
			for role := range 6 {
				for n := -128; n < 128; n++ {
					c := strap.None()
					c[role] = int8(n)
					admits(t, "a number where there is no role", m, c, bad, n == -1)
				}
			}
			admits(t, "zeros", m, strap.Chain{}, bad, false)
			counts(t, "no roles", m, bad, 1)
			if got, ok := m.Search(bad); got != strap.None() || !ok {
				t.Errorf("no roles: Search = %v, %t", got, ok)
			}
			for _, c := range []strap.Chain{strap.None(), {}, chain(1, 2, 3), {-128, 127, 16, 15, 0, -2}} {
				if got, ok := m.Near(c, bad); got != strap.None() || !ok {
					t.Errorf("no roles: Near(%v) = %v, %t", c, got, ok)
				}
			}
		}
	}
}

func TestOneRole(t *testing.T) {
	m := of(bits.Of(3, 7, 15)) // no links: none is needed
	searches(t, "one role", m, 0, 3)
	searches(t, "one role", m, bits.Of(3), 7)
	searches(t, "one role", m, bits.Of(3, 7), 15)
	searches(t, "one role", m, bits.Of(3, 7, 15))
	nears(t, "one role", m, chain(15), 0, 15)
	nears(t, "one role", m, chain(15), bits.Of(15, 3), 7)
	nears(t, "one role", m, chain(4), 0, 3)
	nears(t, "one role", m, chain(7), every)
	counts(t, "one role", m, 0, 3)
	counts(t, "one role", m, bits.Of(7, 8), 2)
	counts(t, "one role, all units", of(every), 0, 16)
	searches(t, "unit 0 alone", of(bits.Of(0)), 0, 0)
	searches(t, "unit 15 alone", of(bits.Of(15)), 0, 15)
}

// TestNoChain: what leaves a map without any chain.
func TestNoChain(t *testing.T) {
	none := func(name string, m strap.Map, bad bits.Set) {
		t.Helper()
		searches(t, name, m, bad)
		counts(t, name, m, bad, 0)
		for _, c := range []strap.Chain{strap.None(), {}, chain(1, 3), chain(1, 4, 5), {-128, 127, 16, 99, -2, 15}} {
			nears(t, name, m, c, bad)
			admits(t, name, m, c, bad, false)
		}
	}
	roles := []bits.Set{bits.Of(0, 1), bits.Of(2, 3), bits.Of(4, 5), bits.Of(6, 7), bits.Of(8, 9), bits.Of(10, 11)}
	for role, units := range roles {
		none("a role whose units are all bad", linked(roles...), units)
		empty := slices.Clone(roles)
		empty[role] = 0
		none("a role without units", linked(empty...), 0)
		cut := linked(roles...)
		if role < 5 {
			for unit := range units.All() {
				cut.Links[unit] = every.Less(roles[role+1])
			}
			none("units that are linked with none of the next role", cut, 0)
			bad := linked(roles...)
			for unit := range units.All() {
				bad.Links[unit] = bits.Of(2*role + 2)
			}
			none("units that are linked with bad ones of the next role", bad, bits.Of(2*role+2))
		}
	}
	none("all bad", linked(roles...), every)
	none("no links", of(roles...), 0)
	none("a role without units, alone", of(0), 0)
	none("roles without units", linked(0, 0, 0, 0, 0, 0), 0)
	// Each role can go on to the next, yet no chain goes through.
	m := of(bits.Of(0, 1), bits.Of(2, 3), bits.Of(4))
	m.Links[0], m.Links[1], m.Links[3] = bits.Of(2), bits.Of(2), bits.Of(4)
	none("no way through", m, 0)
}

// TestSearch: the first unit of a role may lead nowhere, near or far.
func TestSearch(t *testing.T) {
	m := of(bits.Of(0, 1, 2), bits.Of(3, 4, 5), bits.Of(6, 7), bits.Of(8, 9))
	m.Links[0] = bits.Of(3)
	m.Links[1] = bits.Of(3, 4)
	m.Links[2] = bits.Of(4, 5)
	m.Links[3] = bits.Of(6)
	m.Links[4] = bits.Of(6, 7)
	m.Links[5] = bits.Of(7)
	m.Links[7] = bits.Of(8, 9)
	searches(t, "unit 6 leads nowhere", m, 0, 1, 4, 7, 8)
	counts(t, "unit 6 leads nowhere", m, 0, 6)
	searches(t, "1 bad", m, bits.Of(1), 2, 4, 7, 8)
	searches(t, "4 bad", m, bits.Of(4), 2, 5, 7, 8)
	searches(t, "8 bad", m, bits.Of(8, 0, 3, 6), 1, 4, 7, 9)
	searches(t, "7 bad", m, bits.Of(7))
	searches(t, "units that take no role bad", m, bits.Of(10, 11, 12, 13, 14, 15), 1, 4, 7, 8)
	searches(t, "the greatest", linked(bits.Of(15), bits.Of(14), bits.Of(13), bits.Of(12), bits.Of(11), bits.Of(10)), 0, 15, 14, 13, 12, 11, 10)
	searches(t, "role 0 counts most", linked(bits.Of(14, 15), bits.Of(0, 1)), 0, 14, 0)
}

func TestNear(t *testing.T) {
	m := linked(bits.Of(0, 1), bits.Of(2, 3), bits.Of(4, 5), bits.Of(6, 7), bits.Of(8, 9), bits.Of(10, 11))
	greatest := chain(1, 3, 5, 7, 9, 11)
	nears(t, "itself", m, greatest, 0, 1, 3, 5, 7, 9, 11)
	nears(t, "itself, all others bad", m, greatest, every.Less(greatest.Units()), 1, 3, 5, 7, 9, 11)
	for role := range 6 {
		want := greatest
		want[role]--
		nears(t, "one bad", m, greatest, bits.Of(int(greatest[role])), want[:]...)
		c := greatest
		for _, n := range []int8{-128, -2, -1, 12, 15, 16, 127} {
			c[role] = n
			nears(t, "one that is no unit of its role", m, c, 0, want[:]...)
		}
	}
	least := []int8{0, 2, 4, 6, 8, 10}
	nears(t, "None", m, strap.None(), 0, least...)
	nears(t, "all roles differ", m, greatest, greatest.Units(), least...)
	nears(t, "no unit anywhere", m, strap.Chain{-128, 127, 16, 99, -2, 100}, 0, least...)
	nears(t, "units of other roles", m, chain(2, 4, 6, 8, 10, 0), 0, least...)
	nears(t, "none left", m, greatest, bits.Of(4, 5))

	// To keep role 0 would cost two roles; to give it up costs one.
	m = of(bits.Of(0, 1), bits.Of(2, 3), bits.Of(4, 5))
	m.Links[0], m.Links[1] = bits.Of(2), bits.Of(3)
	m.Links[2], m.Links[3] = bits.Of(4), bits.Of(5)
	nears(t, "fewest, not first", m, chain(0, 3, 5), 0, 1, 3, 5)
	nears(t, "fewest, not first", m, chain(1, 2, 4), 0, 0, 2, 4)
	nears(t, "fewest, not least", m, chain(1, 2, 5), 0, 1, 3, 5)
	nears(t, "fewest, and least", m, chain(0, 3, 4), 0, 0, 2, 4)
	nears(t, "as many: the least", m, chain(15, 15, 15), 0, 0, 2, 4)

	// What stands where there is no role makes no difference.
	nears(t, "numbers behind the last role", m, chain(1, 2, 5, 0, 4, -7), 0, 1, 3, 5)

	// Of several that differ in one role, the least is the one that changes the
	// first role to a lesser unit, or the last to a greater one.
	m = linked(bits.Of(1, 3), bits.Of(5, 7))
	m.Links[3] = bits.Of(5)
	nears(t, "a lesser one for role 0", m, chain(3, 7), 0, 1, 7)
	m = linked(bits.Of(1, 3), bits.Of(5, 7))
	m.Links[1] = bits.Of(7)
	nears(t, "a greater one for role 1", m, chain(1, 5), 0, 1, 7)
}

// TestMost: as many roles as there may be, and as many chains.
func TestMost(t *testing.T) {
	m := linked(bits.Of(0, 1, 2), bits.Of(3, 4, 5), bits.Of(6, 7, 8), bits.Of(9, 10, 11), bits.Of(12, 13), bits.Of(14, 15))
	if !m.Right() {
		t.Error("not Right")
	}
	counts(t, "all linked", m, 0, 324)
	searches(t, "all linked", m, 0, 0, 3, 6, 9, 12, 14)
	for unit := range 12 {
		counts(t, "one of three bad", m, bits.Of(unit), 216)
	}
	for unit := 12; unit < 16; unit++ {
		counts(t, "one of two bad", m, bits.Of(unit), 162)
	}
	counts(t, "one each left", m, every.Without(2, 5, 8, 11, 13, 15), 1)
	searches(t, "one each left", m, every.Without(2, 5, 8, 11, 13, 15), 2, 5, 8, 11, 13, 15)
	for unit := range 3 {
		m.Links[unit] = bits.Of(unit + 3)
	}
	counts(t, "each of role 0 linked with one", m, 0, 108)
}

// plainly reports whether a map admits a chain, by the words of the chapter.
func plainly(m strap.Map, c strap.Chain, bad bits.Set) bool {
	for role, n := range c {
		if role >= len(m.Roles) {
			if n != -1 {
				return false
			}
			continue
		}
		if n < 0 || n > 15 || m.Roles[role].Units>>n&1 == 0 || bad>>n&1 == 1 {
			return false
		}
		if role > 0 && m.Links[c[role-1]]>>n&1 == 0 {
			return false
		}
	}
	return true
}

// chains calls f with each chain that has one of these numbers for each of the
// first roles, in increasing order.
func chains(numbers [][]int8, f func(c strap.Chain)) {
	c := strap.None()
	var fill func(role int)
	fill = func(role int) {
		if role == len(numbers) {
			f(c)
			return
		}
		for _, n := range numbers[role] {
			c[role] = n
			fill(role + 1)
		}
	}
	fill(0)
}

// apart is in how many roles two chains differ.
func apart(a, b strap.Chain) int {
	n := 0
	for role := range a {
		if a[role] != b[role] {
			n++
		}
	}
	return n
}

// tries tries all chains of these numbers one by one, which must be all that
// may be admitted, and holds the map's answers against what was found.
func tries(t *testing.T, m strap.Map, bad bits.Set, numbers [][]int8, near ...strap.Chain) {
	t.Helper()
	var found []strap.Chain
	chains(numbers, func(c strap.Chain) {
		want := plainly(m, c, bad)
		if m.Admits(c, bad) != want {
			t.Errorf("%v, bad %s: Admits(%v) = %t", m, bad.Text(), c, !want)
		}
		if want {
			found = append(found, c)
		}
	})
	if got := m.Count(bad); got != len(found) {
		t.Errorf("%v, bad %s: Count = %d, want %d", m, bad.Text(), got, len(found))
	}
	least := strap.None()
	if len(found) > 0 {
		least = found[0]
	}
	if got, ok := m.Search(bad); got != least || ok != (len(found) > 0) {
		t.Errorf("%v, bad %s: Search = %v, %t, want %v", m, bad.Text(), got, ok, least)
	}
	for _, c := range append(near, found...) {
		want := least
		for _, d := range found {
			if apart(c, d) < apart(c, want) {
				want = d
			}
		}
		if got, ok := m.Near(c, bad); got != want || ok != (len(found) > 0) {
			t.Errorf("%v, bad %s: Near(%v) = %v, %t, want %v", m, bad.Text(), c, got, ok, want)
		}
	}
}

// draws gives numbers below n, the same ones in each run.
func draws(seed uint32) func(n int) int {
	return func(n int) int {
		seed = seed*1664525 + 1013904223
		return int(seed>>8) % n
	}
}

// drawn is a map that is Right, with that many roles.
func drawn(draw func(n int) int, roles int) strap.Map {
	m := of(make([]bits.Set, roles)...)
	dense := draw(3)
	for unit := range 16 {
		if role := draw(roles + 1); role < roles {
			m.Roles[role].Units |= 1 << unit
		}
		m.Links[unit] = bits.Set(draw(65536))
		for range dense {
			m.Links[unit] |= bits.Set(draw(65536))
		}
	}
	return m
}

// drawnChain is a chain, most of whose units may take their role.
func drawnChain(draw func(n int) int, m strap.Map) strap.Chain {
	var c strap.Chain
	for role := range c {
		c[role] = int8(draw(20) - 2)
		if role >= len(m.Roles) {
			if draw(4) > 0 {
				c[role] = -1
			}
		} else if units := slices.Collect(m.Roles[role].Units.All()); len(units) > 0 && draw(4) > 0 {
			c[role] = int8(units[draw(len(units))])
		}
	}
	return c
}

// TestAgainstPlain: maps with each number of roles, of which each chain is
// tried one by one.
func TestAgainstPlain(t *testing.T) {
	for roles := range 7 {
		draw := draws(uint32(roles))
		for range 150 {
			m := drawn(draw, roles)
			var bad bits.Set
			for range draw(5) {
				bad |= 1 << draw(16)
			}
			numbers := make([][]int8, roles)
			for role := range numbers {
				// All units of the role; and for few roles, all numbers about.
				for n := int8(-2); n < 18; n++ {
					if roles <= 2 || m.Roles[role].Units.Has(int(n)) || draw(20) == 0 {
						numbers[role] = append(numbers[role], n)
					}
				}
			}
			near := []strap.Chain{strap.None(), {}, {-128, 127, 16, 99, -2, 17}}
			for range 20 {
				near = append(near, drawnChain(draw, m))
			}
			tries(t, m, bad, numbers, near...)
			if t.Failed() {
				t.FailNow()
			}
		}
	}
}

// TestEachNumber: some maps of three roles with each number that a chain may
// hold about the units.
func TestEachNumber(t *testing.T) {
	draw := draws(77)
	var about []int8
	for n := int8(-3); n < 20; n++ {
		about = append(about, n)
	}
	for range 20 {
		m := drawn(draw, 3)
		tries(t, m, bits.Set(draw(65536)&draw(65536)&draw(65536)), [][]int8{about, about, about})
		if t.Failed() {
			t.FailNow()
		}
	}
}

// TestNotRight: maps that are not Right get an answer, too.
func TestNotRight(t *testing.T) {
	for _, roles := range []int{2, 6, 7, 8, 16, 17, 255, 256, 70000} {
		sets := make([]bits.Set, roles)
		for role := range sets {
			sets[role] = every
		}
		for _, m := range []strap.Map{linked(sets...), of(sets...), linked(make([]bits.Set, roles)...)} {
			for _, bad := range []bits.Set{0, bits.Of(3), every} {
				m.Search(bad)
				m.Near(chain(15, 14, 13, 12, 11, 10), bad)
				m.Count(bad)
				for _, c := range []strap.Chain{strap.None(), {}, {-128, 127, 16, 99, -2, 15}} {
					if m.Admits(c, bad) && roles > api.MaxRoles {
						t.Errorf("%d roles: %v is admitted, which has no unit for some", roles, c)
					}
				}
			}
		}
	}
	admits(t, "a unit for two roles", linked(bits.Of(3), bits.Of(3)), chain(3, 3), 0, true)
}

func TestUnits(t *testing.T) {
	for _, x := range []struct {
		c    strap.Chain
		want bits.Set
	}{
		{strap.None(), 0}, {strap.Chain{}, bits.Of(0)}, {chain(0, 1, 2, 3, 4, 5), bits.Of(0, 1, 2, 3, 4, 5)},
		{chain(15, 10, 5), bits.Of(15, 10, 5)}, {chain(4, -1, 7, -1, -1, 15), bits.Of(4, 7, 15)}, {chain(-1, -1, -1, -1, -1, 0), bits.Of(0)},
		{chain(3, 3, 3, 3, 3, 3), bits.Of(3)}, {chain(9, 2, 9), bits.Of(2, 9)},
		{chain(-128, 127, 16, 99, -2, 17), 0}, {chain(16, 15, 32, 1, -16, -15), bits.Of(1, 15)},
	} {
		if got := x.c.Units(); got != x.want {
			t.Errorf("%v: Units = %s, want %s", x.c, got.Text(), x.want.Text())
		}
	}
	for n := -128; n < 128; n++ {
		for role := range 6 {
			c := strap.None()
			c[role] = int8(n)
			var want bits.Set
			if n >= 0 && n < 16 {
				want = 1 << n
			}
			if got := c.Units(); got != want {
				t.Errorf("%v: Units = %s", c, got.Text())
			}
		}
	}
}

func TestDiffers(t *testing.T) {
	base := chain(3, -1, 15, 0, 16, -128)
	for n := range 64 { // each choice of roles
		c := base
		var want []int
		for role := range 6 {
			if n>>role&1 == 1 {
				c[role]++
				want = append(want, role)
			}
		}
		if got := base.Differs(c); !slices.Equal(got, want) {
			t.Errorf("%v and %v: Differs = %v, want %v", base, c, got, want)
		}
		if got := c.Differs(base); !slices.Equal(got, want) {
			t.Errorf("%v and %v: Differs = %v, want %v", c, base, got, want)
		}
	}
	for _, c := range []strap.Chain{base, strap.None(), {}} {
		if got := c.Differs(c); len(got) != 0 {
			t.Errorf("%v differs from itself in %v", c, got)
		}
	}
	if got := strap.None().Differs(strap.Chain{}); !slices.Equal(got, []int{0, 1, 2, 3, 4, 5}) {
		t.Errorf("None and zeros: %v", got)
	}
}

// three is what Three is to return, by the words of the chapter.
func three(wheels [4]int, bad bits.Set) (bits.Set, bool) {
	var l []int
	for _, n := range wheels {
		if n >= 0 && n <= 15 && bad>>n&1 == 0 && !slices.Contains(l, n) {
			l = append(l, n)
		}
	}
	if len(l) < 3 {
		return 0, false
	}
	return 1<<l[0] | 1<<l[1] | 1<<l[2], true
}

func TestThree(t *testing.T) {
	for _, x := range []struct {
		wheels [4]int
		bad    bits.Set
		want   bits.Set
	}{
		{[4]int{4, 5, 6, 7}, 0, bits.Of(4, 5, 6)}, {[4]int{7, 6, 5, 4}, 0, bits.Of(7, 6, 5)}, {[4]int{4, 5, 6, 7}, bits.Of(0, 15), bits.Of(4, 5, 6)},
		{[4]int{4, 5, 6, 7}, bits.Of(4), bits.Of(5, 6, 7)}, {[4]int{4, 5, 6, 7}, bits.Of(5), bits.Of(4, 6, 7)}, {[4]int{4, 5, 6, 7}, bits.Of(6), bits.Of(4, 5, 7)}, {[4]int{4, 5, 6, 7}, bits.Of(7), bits.Of(4, 5, 6)},
		{[4]int{4, 5, 6, 7}, bits.Of(4, 7), 0}, {[4]int{4, 5, 6, 7}, bits.Of(4, 5, 6), 0}, {[4]int{4, 5, 6, 7}, every, 0},
		{[4]int{4, 4, 6, 7}, 0, bits.Of(4, 6, 7)}, {[4]int{4, 6, 7, 7}, 0, bits.Of(4, 6, 7)}, {[4]int{4, 6, 4, 7}, bits.Of(6), 0}, {[4]int{4, 4, 7, 7}, 0, 0}, {[4]int{4, 4, 4, 4}, 0, 0}, {[4]int{}, 0, 0},
		{[4]int{-1, 0, 15, 7}, 0, bits.Of(0, 7, 15)}, {[4]int{0, 16, 15, 7}, 0, bits.Of(0, 7, 15)}, {[4]int{-1, 16, 15, 7}, 0, 0}, {[4]int{-1, -1, -1, -1}, 0, 0},
		{[4]int{math.MinInt, 1, 2, 3}, 0, bits.Of(1, 2, 3)}, {[4]int{1, 2, math.MaxInt, 3}, 0, bits.Of(1, 2, 3)}, {[4]int{1, 2, math.MaxInt, math.MinInt}, 0, 0},
	} {
		if got, ok := strap.Three(x.wheels, x.bad); got != x.want || ok != (x.want != 0) {
			t.Errorf("Three(%v, %s) = %s, %t, want %s", x.wheels, x.bad.Text(), got.Text(), ok, x.want.Text())
		}
	}
}

// TestThreeEach: each four of some numbers, with each choice of bad ones.
func TestThreeEach(t *testing.T) {
	numbers := append([]int{0, 1, 2, 3, 14, 15}, extremes...)
	for _, a := range numbers {
		for _, b := range numbers {
			for _, c := range numbers {
				for _, d := range numbers {
					wheels := [4]int{a, b, c, d}
					for _, bad := range []bits.Set{0, 1, bits.Of(2), bits.Of(15), bits.Of(1, 14), every.Without(0, 3, 15), every} {
						want, wantOK := three(wheels, bad)
						if got, ok := strap.Three(wheels, bad); got != want || ok != wantOK {
							t.Fatalf("Three(%v, %s) = %s, %t, want %s, %t", wheels, bad.Text(), got.Text(), ok, want.Text(), wantOK)
						}
					}
				}
			}
		}
	}
}

func TestBranch(t *testing.T) {
	a, b := bits.Of(1, 2), bits.Of(3, 15)
	for _, x := range []struct {
		name      string
		a, b, bad bits.Set
		want      bits.Set
	}{
		{"both clean", a, b, 0, a}, {"both clean, the other way round", b, a, 0, b}, {"others bad", a, b, every.Without(1, 2, 3, 15), a},
		{"the first is not", a, b, bits.Of(2), b}, {"the first is not", a, b, bits.Of(1), b}, {"the first is not at all", a, b, a, b},
		{"the second is not", a, b, bits.Of(15), a}, {"the second is not", a, b, bits.Of(3), a}, {"the second is not at all", a, b, b, a},
		{"neither", a, b, bits.Of(1, 3), 0}, {"neither", a, b, bits.Of(2, 15), 0}, {"all bad", a, b, every, 0},
		{"an empty one first", 0, b, 0, b}, {"an empty one first, all bad", 0, b, every, 0}, {"an empty one first, one bad", 0, b, bits.Of(3), 0},
		{"an empty one second", a, 0, 0, a}, {"an empty one second, one bad", a, 0, bits.Of(1), 0},
		{"both empty", 0, 0, 0, 0}, {"both empty, all bad", 0, 0, every, 0},
		{"the same twice", a, a, 0, a}, {"the same twice, one bad", a, a, bits.Of(1), 0}, {"one in the other, it bad", bits.Of(1, 2, 3), bits.Of(1, 3), bits.Of(2), bits.Of(1, 3)},
		{"all units", every, 0, 0, every}, {"unit 0", bits.Of(0), b, bits.Of(0), b}, {"unit 15", bits.Of(15), a, bits.Of(15), a},
	} {
		if got, ok := strap.Branch(x.a, x.b, x.bad); got != x.want || ok != (x.want != 0) {
			t.Errorf("%s: Branch(%s; %s; %s) = %s, %t, want %s", x.name, x.a.Text(), x.b.Text(), x.bad.Text(), got.Text(), ok, x.want.Text())
		}
	}
}

// TestBranchEach: each two branches of three units, with each choice of bad
// ones.
func TestBranchEach(t *testing.T) {
	units := func(n int) bits.Set { return bits.Set(n&1 | n&2<<6 | n&4<<13) } // 0, 8 and 15
	for n := range 512 {
		a, b, bad := units(n), units(n>>3), units(n>>6)
		var want bits.Set
		if a != 0 && a&bad == 0 {
			want = a
		} else if b != 0 && b&bad == 0 {
			want = b
		}
		if got, ok := strap.Branch(a, b, bad); got != want || ok != (want != 0) {
			t.Errorf("Branch(%s; %s; %s) = %s, %t, want %s", a.Text(), b.Text(), bad.Text(), got.Text(), ok, want.Text())
		}
	}
}

// TestMemory: no call changes what was handed in, and no two answers share
// memory.
func TestMemory(t *testing.T) {
	spare := []strap.Role{{Units: bits.Of(1, 2)}, {Units: bits.Of(3, 4)}, {Units: bits.Of(5, 9)}, {Units: bits.Of(7)}}
	roles, links := slices.Clone(spare), sample().Links
	m := strap.Map{Roles: spare[:2], Links: links}
	c := chain(2, 4, 9)
	d := c
	for _, bad := range []bits.Set{0, bits.Of(4), every} {
		m.Right()
		m.Admits(c, bad)
		m.Search(bad)
		m.Near(c, bad)
		m.Count(bad)
	}
	c.Units()
	c.Differs(strap.None())
	if !slices.Equal(spare, roles) || len(m.Roles) != 2 || m.Links != links || c != d {
		t.Error("what was handed in was changed:", m, spare, c)
	}
	first, _ := m.Search(0)
	first[0] = 99
	searches(t, "again", m, 0, 1, 4)
	one := c.Differs(strap.None())
	two := c.Differs(strap.None())
	for i := range one[:cap(one)] {
		one[:cap(one)][i] = 77
	}
	if !slices.Equal(two, []int{0, 1, 2}) || !slices.Equal(c.Differs(strap.None()), two) {
		t.Error("two results share memory", two)
	}
	// What the map is at the call counts, not what it was at an earlier one.
	spare[0].Units = bits.Of(2)
	searches(t, "with another role", m, 0, 2, 3)
}
