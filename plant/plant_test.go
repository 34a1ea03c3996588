package plant_test

import (
	"math"
	"slices"
	"testing"

	"aerie/api"
	"aerie/bits"
	"aerie/plant"
	"aerie/unit"
)

// noUnits are numbers that are no unit of any plant.
var noUnits = []int{math.MinInt, math.MinInt + 1, math.MinInt32, -1 << 32, -256, -16, -2, -1, 16, 17, 255, 256, 65536, math.MaxInt32, 1 << 32, 1<<32 + 1, math.MaxInt - 1, math.MaxInt}

// all is the set of all numbers of units.
const all bits.Set = 0xffff

// made is a plant with these rules.
func made(t *testing.T, l ...unit.Rule) plant.Plant {
	t.Helper()
	p, err := plant.New(l...)
	if err != api.OK {
		t.Fatalf("New of %d rules: %d", len(l), err)
	}
	return p
}

func rule(wait, tolerate uint8) unit.Rule {
	return unit.Rule{Wait: wait, Tolerate: tolerate}
}

// some are n rules, each another one.
func some(n int) []unit.Rule {
	var l []unit.Rule
	for i := range n {
		l = append(l, unit.Rule{Wait: uint8(i % 5), Tolerate: uint8(i*7%11 + i%3)})
	}
	return l
}

// holds checks all that a plant tells of its units.
func holds(t *testing.T, p plant.Plant, rules []unit.Rule, units []unit.Unit) {
	t.Helper()
	if p.Len() != len(units) {
		t.Errorf("Len %d, want %d", p.Len(), len(units))
	}
	var powered, works, lost bits.Set
	for i, u := range units {
		if p.At(i) != u || p.Rule(i) != rules[i] {
			t.Errorf("unit %d is %v, %v, want %v, %v", i, p.At(i), p.Rule(i), u, rules[i])
		}
		switch u.State {
		case 1:
			powered |= 1 << i
		case 2:
			powered |= 1 << i
			works |= 1 << i
		case 3:
			lost |= 1 << i
		}
	}
	if p.Powered() != powered || p.Works() != works || p.Lost() != lost {
		t.Errorf("Powered %s, Works %s, Lost %s, want %s, %s, %s", p.Powered().Text(), p.Works().Text(), p.Lost().Text(), powered.Text(), works.Text(), lost.Text())
	}
	for i := len(units); i <= api.MaxUnits; i++ {
		noUnit(t, p, i)
	}
	for _, i := range noUnits {
		noUnit(t, p, i)
	}
}

// noUnit checks that a plant tells zero values of this number.
func noUnit(t *testing.T, p plant.Plant, i int) {
	t.Helper()
	if p.At(i) != (unit.Unit{}) || p.Rule(i) != (unit.Rule{}) {
		t.Errorf("no unit %d is %v, %v", i, p.At(i), p.Rule(i))
	}
}

// issues checks an Order, and returns the plant after it.
func issues(t *testing.T, p plant.Plant, on bool, l []int, want ...plant.Order) plant.Plant {
	t.Helper()
	after, got := p.Order(on, l...)
	if !slices.Equal(got, want) {
		t.Errorf("Order(%t, %v) issues %v, want %v", on, l, got, want)
	}
	return after
}

// becomes checks what a Step tells, and returns the plant after it.
func becomes(t *testing.T, p plant.Plant, acks, well, on, lost bits.Set) plant.Plant {
	t.Helper()
	after, gotOn, gotLost := p.Step(acks, well)
	if gotOn != on || gotLost != lost {
		t.Errorf("Step(%s, %s): on %s, lost %s, want %s, %s", acks.Text(), well.Text(), gotOn.Text(), gotLost.Text(), on.Text(), lost.Text())
	}
	return after
}

// ons and offs are commands to these units.
func ons(l ...int) []plant.Order  { return commands(true, l) }
func offs(l ...int) []plant.Order { return commands(false, l) }

func commands(on bool, l []int) []plant.Order {
	var orders []plant.Order
	for _, i := range l {
		orders = append(orders, plant.Order{Unit: i, On: on})
	}
	return orders
}

// mixed is a plant of eight units, two in each state: 0 and 4 off, 1 and 5
// starting, 2 and 6 on, 3 and 7 lost.
func mixed(t *testing.T) (plant.Plant, []unit.Rule, []unit.Unit) {
	t.Helper()
	rules := []unit.Rule{rule(1, 2), rule(3, 4), rule(5, 6), rule(0, 7), rule(0, 0), rule(9, 0), rule(2, 255), rule(0, 1)}
	p := made(t, rules...)
	p = issues(t, p, true, []int{2, 3, 6, 7}, ons(2, 3, 6, 7)...)
	p = becomes(t, p, bits.Of(2, 6), all, bits.Of(2, 6), bits.Of(3, 7))
	p = becomes(t, p, bits.Of(2), all, 0, 0)
	p = issues(t, p, true, []int{5, 1}, ons(5, 1)...)
	units := []unit.Unit{{}, {State: 1, Left: 3}, {State: 2}, {State: 3}, {}, {State: 1, Left: 9}, {State: 2, Bad: 1}, {State: 3}}
	holds(t, p, rules, units)
	return p, rules, units
}

// TestExample: the chapter's.
func TestExample(t *testing.T) {
	rules := some(4)
	p := issues(t, made(t, rules...), true, []int{2, 2, 99}, plant.Order{Unit: 2, On: true})
	holds(t, p, rules, []unit.Unit{{}, {}, {State: 1, Left: rules[2].Wait}, {}})
}

func TestNew(t *testing.T) {
	for n := range api.MaxUnits + 1 {
		holds(t, made(t, some(n)...), some(n), make([]unit.Unit, n))
		full := slices.Repeat([]unit.Rule{rule(255, 255)}, n)
		holds(t, made(t, full...), full, make([]unit.Unit, n))
		holds(t, made(t, make([]unit.Rule, n)...), make([]unit.Rule, n), make([]unit.Unit, n))
	}
	for _, n := range []int{17, 18, 31, 32, 33, 255, 256, 257, 4096, 65536, 65537} {
		p, err := plant.New(some(n)...)
		if err != api.ErrArg || p != (plant.Plant{}) {
			t.Errorf("New of %d rules: %d, %v, want ErrArg and a zero value", n, err, p)
		}
	}
	if made(t) != made(t, []unit.Rule{}...) || made(t) != (plant.Plant{}) {
		t.Error("plants without units differ")
	}
}

// TestZero: each function of a plant without units.
func TestZero(t *testing.T) {
	var p plant.Plant
	holds(t, p, nil, nil)
	for _, on := range []bool{false, true} {
		for _, l := range [][]int{nil, {}, {0}, {0, 1, 15}, noUnits} {
			if got := issues(t, p, on, l); got != p {
				t.Error("Order", got)
			}
		}
	}
	for _, acks := range []bits.Set{0, 1, 0x8001, all} {
		for _, well := range []bits.Set{0, 1, 0x8001, all} {
			if got := becomes(t, p, acks, well, 0, 0); got != p {
				t.Error("Step", got)
			}
		}
		if got, l := p.Only(acks); got != p || len(l) != 0 {
			t.Error("Only", got, l)
		}
	}
	if !plant.Same(p, plant.Plant{}) || plant.Same(p, made(t, unit.Rule{})) {
		t.Error("Same")
	}
}

// TestOrderEach: each unit of a plant of each size, alone.
func TestOrderEach(t *testing.T) {
	for n := 1; n <= api.MaxUnits; n++ {
		rules := some(n)
		p := made(t, rules...)
		for i := range n {
			units := make([]unit.Unit, n)
			units[i] = unit.Unit{State: 1, Left: rules[i].Wait}
			begun := issues(t, p, true, []int{i}, ons(i)...)
			holds(t, begun, rules, units)
			if again := issues(t, begun, true, []int{i}); again != begun {
				t.Error("ordered on twice", n, i)
			}
			if back := issues(t, begun, false, []int{i}, offs(i)...); back != p {
				t.Error("ordered off again", n, i)
			}
			if same := issues(t, p, false, []int{i}); same != p {
				t.Error("ordered off while off", n, i)
			}
		}
	}
}

// TestOrderOfIssued: the commands come as the numbers did, each but once, and
// numbers that are no unit of the plant count for nothing.
func TestOrderOfIssued(t *testing.T) {
	rules := some(6)
	p := made(t, rules...)
	for _, x := range []struct {
		l    []int
		want []int
	}{
		{nil, nil}, {[]int{}, nil}, {[]int{6}, nil}, {[]int{6, -1, 15, 16, 99}, nil}, {noUnits, nil},
		{[]int{0, 1, 2, 3, 4, 5}, []int{0, 1, 2, 3, 4, 5}}, {[]int{5, 4, 3, 2, 1, 0}, []int{5, 4, 3, 2, 1, 0}},
		{[]int{3, 0, 5}, []int{3, 0, 5}}, {[]int{2, 2}, []int{2}}, {[]int{2, 2, 2, 2, 2}, []int{2}},
		{[]int{4, 1, 4, 1, 4}, []int{4, 1}}, {[]int{1, 4, 4, 1, 0, 1}, []int{1, 4, 0}},
		{[]int{-1, 3, 6, 1, 15, 16, 0, 99}, []int{3, 1, 0}}, {[]int{3, 3, 6, 3, 7, 1}, []int{3, 1}},
		{append(append(slices.Clone(noUnits), 5, 2), noUnits...), []int{5, 2}},
	} {
		begun := issues(t, p, true, x.l, ons(x.want...)...)
		units := make([]unit.Unit, 6)
		for _, i := range x.want {
			units[i] = unit.Unit{State: 1, Left: rules[i].Wait}
		}
		holds(t, begun, rules, units)
		if back := issues(t, begun, false, x.l, offs(x.want...)...); back != p {
			t.Error("ordered off again", x.l)
		}
	}
}

// TestOrderStates: units in each state, on and off.
func TestOrderStates(t *testing.T) {
	p, rules, units := mixed(t)
	each := []int{7, 6, 5, 4, 3, 2, 1, 0}
	begun := []unit.Unit{{State: 1, Left: 1}, units[1], units[2], {State: 1}, {State: 1}, units[5], units[6], {State: 1}}
	holds(t, issues(t, p, true, each, ons(7, 4, 3, 0)...), rules, begun)
	holds(t, issues(t, p, false, each, offs(7, 6, 5, 3, 2, 1)...), rules, make([]unit.Unit, 8))
	holds(t, p, rules, units)
}

func TestOrderMany(t *testing.T) {
	p := made(t, some(3)...)
	l := slices.Repeat([]int{2, -1, 0, 77}, 50000)
	p = issues(t, p, true, l, ons(2, 0)...)
	issues(t, p, false, l, offs(2, 0)...)
}

// TestStepSets: each of the four answers for units in each state.
func TestStepSets(t *testing.T) {
	p, rules, units := mixed(t)
	after := []unit.Unit{{}, {State: 1, Left: 2}, {State: 2, Bad: 1}, {State: 3}, {}, {State: 1, Left: 8}, {State: 2, Bad: 2}, {State: 3}}
	holds(t, becomes(t, p, 0, 0, 0, 0), rules, after)
	holds(t, becomes(t, p, 0, all, 0, 0), rules, after)
	after = []unit.Unit{{}, {State: 2}, {State: 2, Bad: 1}, {State: 3}, {}, {State: 2}, {State: 2, Bad: 2}, {State: 3}}
	holds(t, becomes(t, p, all, 0, bits.Of(1, 5), 0), rules, after)
	after = []unit.Unit{{}, {State: 2}, {State: 2}, {State: 3}, {}, {State: 2}, {State: 2}, {State: 3}}
	holds(t, becomes(t, p, all, all, bits.Of(1, 5), 0), rules, after)
	holds(t, p, rules, units)
}

// TestStepOne: each unit alone acknowledges, is well, becomes on, becomes lost.
func TestStepOne(t *testing.T) {
	rules := slices.Repeat([]unit.Rule{rule(0, 0)}, api.MaxUnits)
	p := made(t, rules...)
	for i := range api.MaxUnits {
		p = issues(t, p, true, []int{i}, ons(i)...)
	}
	works := becomes(t, p, all, 0, all, 0)
	for i := range api.MaxUnits {
		one := bits.Of(i)
		becomes(t, p, one, 0, one, all.Less(one))
		becomes(t, p, all.Less(one), all, all.Less(one), one)
		becomes(t, works, one, all, 0, all.Less(one))
		becomes(t, works, all, one, 0, all.Less(one))
		becomes(t, works, all.Less(one), all, 0, one)
		becomes(t, works, all, all.Less(one), 0, one)
	}
	becomes(t, p, 0, all, 0, all)
	becomes(t, works, all, all, 0, 0)
}

// TestStepBoth: some become on, and some become lost, in one step; sets with
// numbers that are no unit of the plant do nothing for it.
func TestStepBoth(t *testing.T) {
	rules := []unit.Rule{rule(0, 0), rule(0, 1), rule(2, 0), rule(0, 0), rule(0, 2), rule(7, 7)}
	p := made(t, rules...)
	p = issues(t, p, true, []int{1, 3, 4}, ons(1, 3, 4)...)
	p = becomes(t, p, all, all, bits.Of(1, 3, 4), 0)
	p = becomes(t, p, all, bits.Of(3, 4), 0, 0)
	p = issues(t, p, true, []int{0, 2, 5}, ons(0, 2, 5)...)
	acks, well := bits.Of(2, 3, 4, 5, 6, 7, 15), bits.Of(0, 1, 2, 4, 8, 14, 15)
	after := []unit.Unit{{State: 3}, {State: 3}, {State: 2}, {State: 3}, {State: 2}, {State: 2}}
	holds(t, becomes(t, p, acks, well, bits.Of(2, 5), bits.Of(0, 1, 3)), rules, after)
	within := bits.Of(0, 1, 2, 3, 4, 5)
	if becomes(t, p, acks, well, bits.Of(2, 5), bits.Of(0, 1, 3)) != becomes(t, p, acks.And(within), well.And(within), bits.Of(2, 5), bits.Of(0, 1, 3)) {
		t.Error("numbers that are no unit count")
	}
}

// TestStepRules: each unit goes by its own rule.
func TestStepRules(t *testing.T) {
	var rules []unit.Rule
	var l []int
	for i := range api.MaxUnits {
		rules = append(rules, unit.Rule{Wait: uint8(i), Tolerate: uint8(15 - i)})
		l = append(l, i)
	}
	deaf := issues(t, made(t, rules...), true, l, ons(l...)...)
	ill := becomes(t, deaf, all, 0, all, 0)
	for i := range api.MaxUnits {
		deaf = becomes(t, deaf, 0, all, 0, bits.Of(i))
		ill = becomes(t, ill, all, 0, 0, bits.Of(15-i))
	}
	becomes(t, deaf, 0, 0, 0, 0)
	becomes(t, ill, 0, 0, 0, 0)
}

func TestOnly(t *testing.T) {
	only := func(p plant.Plant, keep bits.Set, want ...int) plant.Plant {
		t.Helper()
		after, got := p.Only(keep)
		if !slices.Equal(got, offs(want...)) {
			t.Errorf("Only(%s) issues %v, want %v off", keep.Text(), got, want)
		}
		return after
	}
	p, rules, units := mixed(t)
	none := slices.Clone(units)
	none[1], none[2], none[5], none[6] = unit.Unit{}, unit.Unit{}, unit.Unit{}, unit.Unit{}
	holds(t, only(p, 0, 1, 2, 5, 6), rules, none)
	holds(t, only(p, bits.Of(0, 3, 4, 7, 8, 15), 1, 2, 5, 6), rules, none)
	for _, keep := range []bits.Set{all, p.Powered(), bits.Of(1, 2, 5, 6, 9, 15)} {
		if only(p, keep) != p {
			t.Error("all are kept", keep.Text())
		}
	}
	part := slices.Clone(units)
	part[2], part[5] = unit.Unit{}, unit.Unit{}
	holds(t, only(p, bits.Of(6, 1, 0), 2, 5), rules, part)
	if idle := made(t, rules...); only(idle, 0) != idle || only(idle, all) != idle {
		t.Error("nothing is powered")
	}
	holds(t, p, rules, units)
}

// TestOnlyEach: each set of units to keep, in a plant whose units are all
// powered.
func TestOnlyEach(t *testing.T) {
	p := made(t, some(api.MaxUnits)...)
	for i := api.MaxUnits - 1; i >= 0; i-- {
		p = issues(t, p, true, []int{i}, ons(i)...)
	}
	for n := range 65536 {
		keep := bits.Set(n)
		after, got := p.Only(keep)
		var want []int
		for i := range api.MaxUnits {
			if n>>i&1 == 0 {
				want = append(want, i)
			}
		}
		if after.Powered() != keep || !slices.Equal(got, offs(want...)) {
			t.Fatalf("Only(%s): %v, powered %s", keep.Text(), got, after.Powered().Text())
		}
	}
}

// TestSame: plants that differ in a rule, in a unit, or in how many units they
// have, and in nothing else.
func TestSame(t *testing.T) {
	same := func(a, b plant.Plant, want bool) {
		t.Helper()
		if plant.Same(a, b) != want || plant.Same(b, a) != want || (a == b) != want {
			t.Errorf("Same(%v, %v) = %t", a, b, !want)
		}
	}
	for n := range api.MaxUnits + 1 {
		p := made(t, some(n)...)
		same(p, p, true)
		same(p, made(t, some(n)...), true)
		for i := range n {
			rules := some(n)
			rules[i].Wait++
			same(p, made(t, rules...), false)
			rules = some(n)
			rules[i].Tolerate++
			same(p, made(t, rules...), false)
			begun := issues(t, p, true, []int{i}, ons(i)...)
			same(begun, p, false)
			same(begun, begun, true)
			same(issues(t, begun, false, []int{i}, offs(i)...), p, true)
		}
		for m := range n {
			same(p, made(t, some(m)...), false)
			same(made(t, make([]unit.Rule, n)...), made(t, make([]unit.Rule, m)...), false)
		}
	}
	// Two ways to one end.
	p, _, _ := mixed(t)
	q, _, _ := mixed(t)
	same(p, q, true)
	same(p, becomes(t, p, 0, 0, 0, 0), false)
	same(becomes(t, p, 0, 0, 0, 0), becomes(t, q, 0, 0x1111, 0, 0), true)
}

// TestMemory: what was handed in, and what was handed out, is the caller's.
func TestMemory(t *testing.T) {
	spare := some(8)
	p := made(t, spare[:5]...)
	if !slices.Equal(spare, some(8)) {
		t.Error("New changed its argument")
	}
	for i := range spare {
		spare[i] = unit.Rule{Wait: 99, Tolerate: 99}
	}
	holds(t, p, some(5), make([]unit.Unit, 5))
	l := []int{3, 1, 9, 3, 0, 4, 2}
	after, one := p.Order(true, l[:5]...)
	if !slices.Equal(l, []int{3, 1, 9, 3, 0, 4, 2}) {
		t.Error("Order changed its argument")
	}
	_, two := p.Order(true, l[:5]...)
	for i := range one[:cap(one)] {
		one[:cap(one)][i] = plant.Order{Unit: 77}
	}
	if !slices.Equal(two, ons(3, 1, 0)) {
		t.Error("two results share memory", two)
	}
	_, one = after.Only(0)
	_, two = after.Only(0)
	for i := range one[:cap(one)] {
		one[:cap(one)][i] = plant.Order{Unit: 77}
	}
	if !slices.Equal(two, offs(0, 1, 3)) {
		t.Error("two results share memory", two)
	}
}

// plain is a plant as the document tells it.
type plain struct {
	rules []unit.Rule
	units []unit.Unit
}

func (p *plain) order(on bool, l []int) []plant.Order {
	var issued []plant.Order
	for _, i := range l {
		if i < 0 || i >= len(p.units) {
			continue
		}
		u := &p.units[i]
		switch {
		case on && (u.State == 0 || u.State == 3):
			*u = unit.Unit{State: 1, Left: p.rules[i].Wait}
		case !on && u.State != 0:
			*u = unit.Unit{}
		default:
			continue
		}
		issued = append(issued, plant.Order{Unit: i, On: on})
	}
	return issued
}

func (p *plain) step(acks, well bits.Set) (bits.Set, bits.Set) {
	var on, lost bits.Set
	for i := range p.units {
		u, ack, healthy := &p.units[i], acks>>i&1 == 1, well>>i&1 == 1
		switch {
		case u.State == 1 && ack:
			*u = unit.Unit{State: 2}
			on |= 1 << i
		case u.State == 1 && u.Left > 0:
			u.Left--
		case u.State == 1:
			*u = unit.Unit{State: 3}
			lost |= 1 << i
		case u.State == 2 && ack && healthy:
			u.Bad = 0
		case u.State == 2 && int(u.Bad)+1 > int(p.rules[i].Tolerate):
			*u = unit.Unit{State: 3}
			lost |= 1 << i
		case u.State == 2:
			u.Bad++
		}
	}
	return on, lost
}

func (p *plain) only(keep bits.Set) []plant.Order {
	var l []int
	for i, u := range p.units {
		if (u.State == 1 || u.State == 2) && keep>>i&1 == 0 {
			l = append(l, i)
		}
	}
	return p.order(false, l)
}

// draws gives numbers below n, the same ones in each run.
func draws(seed uint32) func(n int) int {
	return func(n int) int {
		seed = seed*1664525 + 1013904223
		return int(seed>>8) % n
	}
}

// TestAgainstPlain drives plants of each size through long mixes of calls. The
// plant that was there before each call is what it was.
func TestAgainstPlain(t *testing.T) {
	for n := range api.MaxUnits + 1 {
		p, m := made(t, some(n)...), &plain{rules: some(n), units: make([]unit.Unit, n)}
		draw := draws(uint32(n))
		for step := range 1500 {
			before, copied, units := p, p, slices.Clone(m.units)
			switch draw(8) {
			case 0, 1:
				var l []int
				for range draw(6) {
					l = append(l, draw(api.MaxUnits+4)-2)
				}
				on := draw(4) > 0
				p = issues(t, p, on, l, m.order(on, l)...)
			case 2:
				keep := bits.Set(draw(65536) | draw(65536))
				after, got := p.Only(keep)
				if want := m.only(keep); !slices.Equal(got, want) {
					t.Errorf("Only(%s) issues %v, want %v", keep.Text(), got, want)
				}
				p = after
			default:
				acks, well := bits.Set(draw(65536)|draw(65536)), bits.Set(draw(65536)|draw(65536))
				on, lost := m.step(acks, well)
				p = becomes(t, p, acks, well, on, lost)
			}
			holds(t, p, m.rules, m.units)
			holds(t, before, m.rules, units)
			if before != copied || plant.Same(before, p) != slices.Equal(units, m.units) {
				t.Error("the plant before the call was changed, or Same is wrong")
			}
			if t.Failed() {
				t.Fatalf("%d units, step %d", n, step)
			}
		}
	}
}
