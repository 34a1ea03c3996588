package action_test

import (
	"slices"
	"testing"

	"aerie/action"
	"aerie/api"
)

// row is an enabled row.
func row(event uint8, kind byte, arg uint8) action.Row {
	return action.Row{Event: event, Kind: kind, Arg: arg, Enabled: true}
}

// off is a row that isn't enabled.
func off(event uint8, kind byte, arg uint8) action.Row {
	return action.Row{Event: event, Kind: kind, Arg: arg}
}

// some are n rows, each another one, in increasing order of their events; every
// third one isn't enabled.
func some(n int) []action.Row {
	var l []action.Row
	for i := range n {
		l = append(l, action.Row{Event: uint8(10 + 15*i), Kind: byte(i % 6), Arg: uint8(15 - i), Enabled: i%3 != 2})
	}
	return l
}

// wrong are rows that aren't Right.
func wrong(event uint8) []action.Row {
	return []action.Row{row(event, 6, 0), row(event, 255, 3), row(event, 0, 16), row(event, 5, 255), row(event, 6, 16), off(event, 6, 0), off(event, 2, 16), row(event, 128, 128), row(event, 8, 1), row(event, 1, 32)}
}

// made is a table of these rows.
func made(t *testing.T, l ...action.Row) action.Table {
	t.Helper()
	x, err := action.New(l...)
	if err != api.OK {
		t.Fatalf("New of %v: %d", l, err)
	}
	return x
}

// holds checks all that a table tells.
func holds(t *testing.T, name string, x action.Table, on bool, rows ...action.Row) {
	t.Helper()
	if got := x.Rows(); !slices.Equal(got, rows) || x.On() != on {
		t.Errorf("%s: rows %v, on %t, want %v, on %t", name, got, x.On(), rows, on)
	}
	for event := range 256 {
		var want action.Row
		at := slices.IndexFunc(rows, func(r action.Row) bool { return int(r.Event) == event })
		found := on && at >= 0 && rows[at].Enabled
		if found {
			want = rows[at]
		}
		if got, ok := x.For(uint8(event)); got != want || ok != found {
			t.Errorf("%s: For(%d) = %v, %t, want %v, %t", name, event, got, ok, want, found)
			return
		}
	}
}

// adds checks an Add that is done, and returns the table behind it.
func adds(t *testing.T, x action.Table, r action.Row) action.Table {
	t.Helper()
	before := x
	got, err := x.Add(r)
	if err != api.OK {
		t.Errorf("Add(%v): %d", r, err)
	}
	if x != before {
		t.Errorf("Add(%v) changed the table", r)
	}
	return got
}

// deletes checks a Delete that is done, and returns the table behind it.
func deletes(t *testing.T, x action.Table, event uint8) action.Table {
	t.Helper()
	before := x
	got, err := x.Delete(event)
	if err != api.OK {
		t.Errorf("Delete(%d): %d", event, err)
	}
	if x != before {
		t.Errorf("Delete(%d) changed the table", event)
	}
	return got
}

// enables checks an Enable that is done, and returns the table behind it.
func enables(t *testing.T, x action.Table, on bool, event uint8) action.Table {
	t.Helper()
	before := x
	got, err := x.Enable(on, event)
	if err != api.OK {
		t.Errorf("Enable(%t, %d): %d", on, event, err)
	}
	if x != before {
		t.Errorf("Enable(%t, %d) changed the table", on, event)
	}
	return got
}

// refusesRow checks an Add that is refused.
func refusesRow(t *testing.T, x action.Table, r action.Row, want api.Errno) {
	t.Helper()
	if got, err := x.Add(r); err != want || got != x {
		t.Errorf("Add(%v) to %v = %v, %d, want %d", r, x.Rows(), got.Rows(), err, want)
	}
}

// knowsNone checks that a table has no row for an event, and refuses to change
// it.
func knowsNone(t *testing.T, x action.Table, event uint8) {
	t.Helper()
	if got, err := x.Delete(event); err != api.ErrNone || got != x {
		t.Errorf("Delete(%d) of %v = %v, %d", event, x.Rows(), got.Rows(), err)
	}
	for _, on := range []bool{true, false} {
		if got, err := x.Enable(on, event); err != api.ErrNone || got != x {
			t.Errorf("Enable(%t, %d) of %v = %v, %d", on, event, x.Rows(), got.Rows(), err)
		}
	}
	if got, ok := x.For(event); ok || got != (action.Row{}) {
		t.Errorf("For(%d) of %v = %v", event, x.Rows(), got)
	}
}

// TestExample: the chapter's.
func TestExample(t *testing.T) {
	x := adds(t, adds(t, made(t), row(3, action.Cut, 7)), row(3, action.Turn, 9))
	holds(t, "example", x, true, row(3, action.Turn, 9))
	holds(t, "example, by New", made(t, row(3, action.Cut, 7), row(3, action.Turn, 9)), true, row(3, action.Turn, 9))
}

func TestKinds(t *testing.T) {
	kinds := []int{action.Nothing, action.Report, action.Cut, action.Fail, action.Turn, action.GoSafe}
	if !slices.Equal(kinds, []int{0, 1, 2, 3, 4, 5}) {
		t.Error("kinds", kinds)
	}
}

// TestRight: each kind with each argument.
func TestRight(t *testing.T) {
	for kind := range 256 {
		for arg := range 256 {
			for _, r := range []action.Row{row(0, byte(kind), uint8(arg)), off(0, byte(kind), uint8(arg)), row(255, byte(kind), uint8(arg)), off(99, byte(kind), uint8(arg))} {
				want := kind <= 5 && arg <= 15
				if r.Right() != want {
					t.Errorf("%v.Right() = %t", r, !want)
				}
				x, err := made(t).Add(r)
				if want != (err == api.OK) || want != (len(x.Rows()) == 1) || !want && err != api.ErrArg {
					t.Errorf("Add(%v): %d, %v", r, err, x.Rows())
				}
			}
		}
	}
	for event := range 256 {
		if !row(uint8(event), 5, 15).Right() || off(uint8(event), 6, 15).Right() || row(uint8(event), 5, 16).Right() {
			t.Errorf("Right of rows for event %d", event)
		}
	}
}

func TestNew(t *testing.T) {
	holds(t, "no rows", made(t), true)
	holds(t, "no rows, of a list", made(t, []action.Row{}...), true)
	for n := range 17 {
		l := some(n)
		holds(t, "in order", made(t, l...), true, some(n)...)
		slices.Reverse(l)
		holds(t, "the other way round", made(t, l...), true, some(n)...)
	}
	holds(t, "mixed", made(t, row(7, 1, 1), off(255, 2, 2), row(0, 3, 3), off(128, 4, 4), row(8, 5, 5)), true, row(0, 3, 3), row(7, 1, 1), row(8, 5, 5), off(128, 4, 4), off(255, 2, 2))
	holds(t, "the same event twice", made(t, row(7, 1, 1), row(3, 2, 2), off(7, 5, 15), row(9, 0, 0)), true, row(3, 2, 2), off(7, 5, 15), row(9, 0, 0))
	holds(t, "the same row twice", made(t, row(7, 1, 1), row(7, 1, 1)), true, row(7, 1, 1))
	holds(t, "rows of zeros", made(t, action.Row{}, action.Row{}), true, action.Row{})
	holds(t, "more rows than there may be, for as many events", made(t, append(some(16), some(16)...)...), true, some(16)...)
	holds(t, "very many rows", made(t, slices.Repeat([]action.Row{row(5, 1, 1), row(4, 2, 2)}, 50000)...), true, row(4, 2, 2), row(5, 1, 1))
}

// TestNewRefuses: the first error, with an empty table that is on.
func TestNewRefuses(t *testing.T) {
	refuses := func(name string, want api.Errno, l ...action.Row) {
		t.Helper()
		x, err := action.New(l...)
		if err != want || x != made(t) {
			t.Errorf("%s: New = %v, %d, want %d", name, x.Rows(), err, want)
		}
		holds(t, name, x, true)
		holds(t, name+", with a row", adds(t, x, row(4, 1, 1)), true, row(4, 1, 1))
	}
	one := row(5, 1, 1)
	for _, r := range wrong(100) {
		refuses("one that is wrong", api.ErrArg, r)
		refuses("wrong first", api.ErrArg, append([]action.Row{r}, some(5)...)...)
		refuses("wrong in the middle", api.ErrArg, slices.Insert(some(6), 3, r)...)
		refuses("wrong last", api.ErrArg, append(some(15), r)...)
		refuses("wrong behind a full table", api.ErrArg, append(some(16), r)...)
		refuses("wrong ahead of one more", api.ErrArg, append(some(16), r, one)...)
		refuses("one more, ahead of wrong", api.ErrFull, append(some(16), one, r)...)
		refuses("wrong first, and one more", api.ErrArg, append([]action.Row{r}, append(some(16), one)...)...)
		refuses("wrong, for an event that there is", api.ErrArg, append(some(16), action.Row{Event: 10, Kind: r.Kind, Arg: r.Arg, Enabled: r.Enabled})...)
		refuses("wrong, then right", api.ErrArg, r, row(r.Event, 1, 1))
	}
	refuses("one more", api.ErrFull, append(some(16), one)...)
	refuses("one more first", api.ErrFull, append([]action.Row{one}, some(16)...)...)
	refuses("one more that isn't enabled", api.ErrFull, append(some(16), off(5, 0, 0))...)
	refuses("one more, then one that there is", api.ErrFull, append(some(16), one, some(1)[0])...)
	refuses("many more", api.ErrFull, append(some(16), slices.Repeat([]action.Row{one}, 1000)...)...)
}

// TestAdd: each event, to tables of each number of rows.
func TestAdd(t *testing.T) {
	for n := range 16 {
		for event := range 256 {
			r := action.Row{Event: uint8(event), Kind: byte(event % 6), Arg: uint8(event % 16), Enabled: event%2 == 0}
			var want []action.Row
			for _, other := range some(n) {
				if other.Event < r.Event {
					want = append(want, other)
				}
			}
			want = append(want, r)
			for _, other := range some(n) {
				if other.Event > r.Event {
					want = append(want, other)
				}
			}
			got := adds(t, made(t, some(n)...), r)
			if !slices.Equal(got.Rows(), want) || got != made(t, want...) {
				t.Errorf("Add(%v) to %d rows: %v, want %v", r, n, got.Rows(), want)
			}
		}
	}
	x := made(t, row(10, 1, 1), row(20, 2, 2), row(30, 3, 3))
	holds(t, "first", adds(t, x, row(9, 4, 4)), true, row(9, 4, 4), row(10, 1, 1), row(20, 2, 2), row(30, 3, 3))
	holds(t, "event 0", adds(t, x, row(0, 4, 4)), true, row(0, 4, 4), row(10, 1, 1), row(20, 2, 2), row(30, 3, 3))
	holds(t, "in the middle", adds(t, x, row(21, 4, 4)), true, row(10, 1, 1), row(20, 2, 2), row(21, 4, 4), row(30, 3, 3))
	holds(t, "last", adds(t, x, row(31, 4, 4)), true, row(10, 1, 1), row(20, 2, 2), row(30, 3, 3), row(31, 4, 4))
	holds(t, "event 255", adds(t, x, row(255, 4, 4)), true, row(10, 1, 1), row(20, 2, 2), row(30, 3, 3), row(255, 4, 4))
	holds(t, "not enabled", adds(t, x, off(15, 5, 15)), true, row(10, 1, 1), off(15, 5, 15), row(20, 2, 2), row(30, 3, 3))
	holds(t, "replacing the first", adds(t, x, row(10, 5, 15)), true, row(10, 5, 15), row(20, 2, 2), row(30, 3, 3))
	holds(t, "replacing in the middle", adds(t, x, off(20, 0, 0)), true, row(10, 1, 1), off(20, 0, 0), row(30, 3, 3))
	holds(t, "replacing the last", adds(t, x, off(30, 3, 3)), true, row(10, 1, 1), row(20, 2, 2), off(30, 3, 3))
	holds(t, "replacing by the same", adds(t, x, row(20, 2, 2)), true, row(10, 1, 1), row(20, 2, 2), row(30, 3, 3))
	holds(t, "enabled again", adds(t, adds(t, x, off(20, 2, 2)), row(20, 2, 2)), true, x.Rows()...)
	holds(t, "to a table that is off", adds(t, x.Switch(false), row(25, 4, 4)), false, row(10, 1, 1), row(20, 2, 2), row(25, 4, 4), row(30, 3, 3))
}

// TestAddFull: MaxActs rows, for each event one more, or another one.
func TestAddFull(t *testing.T) {
	for _, on := range []bool{true, false} {
		full := made(t, some(16)...).Switch(on)
		for event := range 256 {
			r := row(uint8(event), 4, 6)
			at := slices.IndexFunc(some(16), func(other action.Row) bool { return other.Event == r.Event })
			if at < 0 {
				refusesRow(t, full, r, api.ErrFull)
				refusesRow(t, full, off(r.Event, 0, 0), api.ErrFull)
			} else {
				want := some(16)
				want[at] = r
				holds(t, "replaced in a full table", adds(t, full, r), on, want...)
			}
			for _, x := range wrong(r.Event) {
				refusesRow(t, full, x, api.ErrArg)
			}
		}
		holds(t, "refused", full, on, some(16)...)
		holds(t, "room again", adds(t, deletes(t, full, 10), row(1, 1, 1)), on, append([]action.Row{row(1, 1, 1)}, some(16)[1:]...)...)
	}
	last := made(t, some(15)...)
	last = adds(t, last, row(255, 1, 1))
	refusesRow(t, last, row(254, 1, 1), api.ErrFull)
	holds(t, "replaced the last", adds(t, last, row(255, 2, 2)), true, append(some(15), row(255, 2, 2))...)
}

// TestAddWrong: a row that isn't Right changes nothing, whatever is there.
func TestAddWrong(t *testing.T) {
	for n := range 17 {
		for _, x := range []action.Table{made(t, some(n)...), made(t, some(n)...).Switch(false)} {
			for _, event := range []uint8{0, 9, 10, 25, 130, 235, 255} {
				for _, r := range wrong(event) {
					refusesRow(t, x, r, api.ErrArg)
				}
			}
		}
	}
}

// TestDelete: each row of tables of each number of rows.
func TestDelete(t *testing.T) {
	for n := range 17 {
		for _, on := range []bool{true, false} {
			x := made(t, some(n)...).Switch(on)
			for i, r := range some(n) {
				want := slices.Delete(some(n), i, i+1)
				got := deletes(t, x, r.Event)
				holds(t, "deleted", got, on, want...)
				if got != made(t, want...).Switch(on) {
					t.Errorf("without row %d of %d: not the same as one that never had it", i, n)
				}
				knowsNone(t, got, r.Event)
				if again := adds(t, got, r); again != x {
					t.Errorf("row %d of %d deleted and added: not the same", i, n)
				}
			}
			for event := range 256 {
				if (event < 10 || (event-10)%15 != 0 || (event-10)/15 >= n) && event%7 < 3 {
					knowsNone(t, x, uint8(event))
				}
			}
		}
	}
	knowsNone(t, made(t), 0) // though a row of zeros has that event
	knowsNone(t, made(t, row(0, 1, 1), row(2, 1, 1)), 1)
	holds(t, "the only one", deletes(t, made(t, row(0, 1, 1)), 0), true)
	holds(t, "all, one by one", deletes(t, deletes(t, deletes(t, made(t, some(3)...), 25), 40), 10), true)
}

// TestEnable: each row of tables of each number of rows.
func TestEnable(t *testing.T) {
	for n := range 17 {
		for _, on := range []bool{true, false} {
			x := made(t, some(n)...).Switch(on)
			for i, r := range some(n) {
				for _, enabled := range []bool{true, false} {
					want := some(n)
					want[i].Enabled = enabled
					got := enables(t, x, enabled, r.Event)
					holds(t, "enabled", got, on, want...)
					if got != made(t, want...).Switch(on) || (got == x) != (enabled == r.Enabled) {
						t.Errorf("Enable(%t) of row %d of %d: %v", enabled, i, n, got.Rows())
					}
					if back := enables(t, got, r.Enabled, r.Event); back != x {
						t.Errorf("Enable of row %d of %d there and back: %v", i, n, back.Rows())
					}
				}
			}
		}
	}
	holds(t, "the only one", enables(t, made(t, row(9, 5, 15)), false, 9), true, off(9, 5, 15))
	holds(t, "of zeros", enables(t, made(t, action.Row{}), true, 0), true, row(0, 0, 0))
}

func TestSwitch(t *testing.T) {
	for n := range 17 {
		x := made(t, some(n)...)
		holds(t, "off", x.Switch(false), false, some(n)...)
		holds(t, "on", x.Switch(true), true, some(n)...)
		holds(t, "on again", x.Switch(false).Switch(true), true, some(n)...)
		holds(t, "off twice", x.Switch(false).Switch(false), false, some(n)...)
		holds(t, "as it was", x, true, some(n)...)
		if x.Switch(true) != x || x.Switch(false).Switch(true) != x || x.Switch(false) == x || x.Switch(false) != x.Switch(false).Switch(false) {
			t.Errorf("%d rows: tables that are on and off are the same, or not", n)
		}
	}
	x := adds(t, made(t).Switch(false), row(3, 2, 1))
	holds(t, "a row added while off", x, false, row(3, 2, 1))
	holds(t, "a row added while off, on again", x.Switch(true), true, row(3, 2, 1))
	holds(t, "a row enabled while off", enables(t, adds(t, x, off(4, 2, 1)), true, 4).Switch(true), true, row(3, 2, 1), row(4, 2, 1))
}

func TestFor(t *testing.T) {
	x := made(t, row(3, 2, 1), off(4, 5, 15))
	for _, c := range []struct {
		name  string
		x     action.Table
		event uint8
		want  action.Row
		ok    bool
	}{
		{"enabled", x, 3, row(3, 2, 1), true}, {"not enabled", x, 4, action.Row{}, false}, {"no such event", x, 5, action.Row{}, false}, {"event 0", x, 0, action.Row{}, false},
		{"table off", x.Switch(false), 3, action.Row{}, false}, {"table off, not enabled", x.Switch(false), 4, action.Row{}, false}, {"no row, table off", made(t).Switch(false), 3, action.Row{}, false},
		{"enabled since", enables(t, x, true, 4), 4, row(4, 5, 15), true}, {"disabled since", enables(t, x, false, 3), 3, action.Row{}, false}, {"kind 0", made(t, row(8, 0, 0)), 8, row(8, 0, 0), true},
	} {
		if got, ok := c.x.For(c.event); got != c.want || ok != c.ok {
			t.Errorf("%s: For(%d) = %v, %t", c.name, c.event, got, ok)
		}
	}
}

// TestSame: the same rows in each order, and by ways round.
func TestSame(t *testing.T) {
	l := []action.Row{row(3, 1, 1), off(0, 0, 0), row(255, 5, 15), row(7, 2, 4)}
	want := made(t, l...)
	orders := 0
	var each func(done, left []action.Row)
	each = func(done, left []action.Row) {
		if len(left) == 0 {
			orders++
			if made(t, done...) != want {
				t.Errorf("of %v: not the same", done)
			}
		}
		for i := range left {
			each(append(slices.Clone(done), left[i]), slices.Delete(slices.Clone(left), i, i+1))
		}
	}
	each(nil, l)
	if orders != 24 {
		t.Error(orders, "orders")
	}
	for name, x := range map[string]action.Table{
		"replaced":             adds(t, adds(t, want, row(3, 5, 9)), row(3, 1, 1)),
		"one more, deleted":    deletes(t, adds(t, want, row(9, 5, 9)), 9),
		"two more, deleted":    deletes(t, deletes(t, made(t, append(l, row(1, 5, 9), row(2, 3, 3))...), 2), 1),
		"last, added again":    adds(t, deletes(t, want, 255), row(255, 5, 15)),
		"first, added again":   adds(t, deletes(t, want, 0), off(0, 0, 0)),
		"disabled and enabled": enables(t, enables(t, want, false, 7), true, 7),
		"enabled and disabled": enables(t, enables(t, want, true, 0), false, 0),
		"off and on":           want.Switch(false).Switch(true),
		"grown while off":      adds(t, deletes(t, want, 7).Switch(false), row(7, 2, 4)).Switch(true),
		"filled and emptied":   emptied(t, filled(t, want), len(l)),
		"of its own rows":      made(t, want.Rows()...),
	} {
		if x != want {
			t.Errorf("%s: not the same: %v", name, x.Rows())
		}
	}
}

// filled is a table with rows for events from 20 on, until it is full.
func filled(t *testing.T, x action.Table) action.Table {
	t.Helper()
	for event := 20; event < 200 && len(x.Rows()) < api.MaxActs; event++ {
		x = adds(t, x, row(uint8(event), 4, 9))
	}
	return x
}

// emptied is a table without its rows for events from 20 on, until it has no
// more than n.
func emptied(t *testing.T, x action.Table, n int) action.Table {
	t.Helper()
	for event := 20; event < 200 && len(x.Rows()) > n; event++ {
		x = deletes(t, x, uint8(event))
	}
	return x
}

// TestDiffer: tables that differ in just one thing.
func TestDiffer(t *testing.T) {
	for n := range 17 {
		x := made(t, some(n)...)
		tables := []action.Table{x, x.Switch(false)}
		for i := range n {
			for _, change := range []func(r *action.Row){
				func(r *action.Row) { r.Event++ }, func(r *action.Row) { r.Kind = (r.Kind + 1) % 6 }, func(r *action.Row) { r.Arg = (r.Arg + 1) % 16 }, func(r *action.Row) { r.Enabled = !r.Enabled },
			} {
				l := some(n)
				change(&l[i])
				tables = append(tables, made(t, l...))
			}
			tables = append(tables, made(t, slices.Delete(some(n), i, i+1)...))
		}
		if n < 16 {
			tables = append(tables, adds(t, x, action.Row{}), adds(t, x, off(255, 0, 0)))
		}
		for i, a := range tables {
			for j, b := range tables {
				if (a == b) != (i == j) {
					t.Errorf("of %d rows: %v and %v are the same, or not", n, a.Rows(), b.Rows())
				}
			}
		}
	}
}

// plain is a table that has its rows by their events.
type plain struct {
	rows map[uint8]action.Row
	on   bool
}

// list is the rows in order.
func (p plain) list() []action.Row {
	var l []action.Row
	for event := range 256 {
		if r, ok := p.rows[uint8(event)]; ok {
			l = append(l, r)
		}
	}
	return l
}

// text is a text of its own for what a table holds.
func (p plain) text() string {
	var b []byte
	for _, r := range append(p.list(), action.Row{Kind: 99, Enabled: p.on}) {
		b = append(b, r.Event, r.Kind, r.Arg, 0)
		if r.Enabled {
			b[len(b)-1] = 1
		}
	}
	return string(b)
}

// add is what a plain table says of Add.
func (p plain) add(r action.Row) api.Errno {
	_, found := p.rows[r.Event]
	switch {
	case r.Kind > 5 || r.Arg > 15:
		return api.ErrArg
	case !found && len(p.rows) == 16:
		return api.ErrFull
	}
	p.rows[r.Event] = r
	return api.OK
}

// known is OK if a plain table has a row for the event, and ErrNone otherwise.
func (p plain) known(event uint8) api.Errno {
	if _, found := p.rows[event]; !found {
		return api.ErrNone
	}
	return api.OK
}

// draws gives numbers below n, the same ones in each run.
func draws(seed uint32) func(n int) int {
	return func(n int) int {
		seed = seed*1664525 + 1013904223
		return int(seed>>8) % n
	}
}

// TestAgainstPlain: long mixes of calls. Tables are the same if and only if
// what they hold is, however they came to it.
func TestAgainstPlain(t *testing.T) {
	draw := draws(21)
	for _, events := range []int{2, 3, 17, 24, 256} {
		x, p := made(t), plain{map[uint8]action.Row{}, true}
		tables, texts := map[string]action.Table{}, map[action.Table]string{}
		fulls := 0
		for range 20000 {
			event := uint8(draw(events) * (255 / (events - 1)))
			before := x
			var err, want api.Errno
			switch draw(8) {
			case 0, 1, 2:
				r := action.Row{Event: event, Kind: byte(draw(40)) % 7, Arg: uint8(draw(80)) % 17, Enabled: draw(3) > 0}
				if events < 4 {
					r.Kind, r.Arg = r.Kind%2, 15
				}
				want = p.add(r)
				x, err = x.Add(r)
			case 3:
				if draw(4) > 0 {
					continue
				}
				want = p.known(event)
				delete(p.rows, event)
				x, err = x.Delete(event)
			case 4, 5, 6:
				on := draw(2) == 0
				if want = p.known(event); want == api.OK {
					r := p.rows[event]
					r.Enabled = on
					p.rows[event] = r
				}
				x, err = x.Enable(on, event)
			default:
				p.on = draw(2) == 0
				x = x.Switch(p.on)
			}
			if err != want || err != api.OK && x != before {
				t.Fatalf("event %d: error %d, want %d; the same table: %t", event, err, want, x == before)
			}
			if want == api.ErrFull {
				fulls++
			}
			agrees(t, x, p, event)
			text := p.text()
			if same, ok := tables[text]; ok && same != x {
				t.Fatalf("not the same as one of the same rows: %v", x.Rows())
			}
			if other, ok := texts[x]; ok && other != text {
				t.Fatalf("the same as one of other rows: %v", x.Rows())
			}
			tables[text], texts[x] = x, text
		}
		if (fulls > 100) != (events > 16) {
			t.Errorf("of %d events: full %d times", events, fulls)
		}
	}
}

// agrees checks what a table tells against a plain one.
func agrees(t *testing.T, x action.Table, p plain, event uint8) {
	t.Helper()
	if !slices.Equal(x.Rows(), p.list()) || x.On() != p.on {
		t.Fatalf("rows %v, on %t, want %v, on %t", x.Rows(), x.On(), p.list(), p.on)
	}
	want := p.rows[event]
	ok := p.on && want.Enabled
	if !ok {
		want = action.Row{}
	}
	if got, found := x.For(event); got != want || found != ok {
		t.Fatalf("For(%d) = %v, %t, want %v, %t", event, got, found, want, ok)
	}
}

// TestValues: tables that are made from one another stay apart.
func TestValues(t *testing.T) {
	x := made(t, some(5)...)
	copied := x
	added, deleted, enabled, switched := adds(t, x, row(12, 4, 4)), deletes(t, x, 25), enables(t, x, true, 40), x.Switch(false)
	holds(t, "as it was", x, true, some(5)...)
	if x != copied || x != made(t, some(5)...) {
		t.Error("a call changed the table")
	}
	deleted = deletes(t, deleted, 10)
	added = adds(t, added, row(13, 4, 4))
	holds(t, "added", added, true, slices.Insert(some(5), 1, row(12, 4, 4), row(13, 4, 4))...)
	holds(t, "deleted", deleted, true, some(5)[2:]...)
	want := some(5)
	want[2].Enabled = true
	holds(t, "enabled", enabled, true, want...)
	holds(t, "switched", switched, false, some(5)...)
}

// TestMemory: lists that are handed in stay as they are, and those that are
// returned are the caller's.
func TestMemory(t *testing.T) {
	for n := range 17 {
		list := append(some(n), row(200, 1, 1), row(201, 2, 2))
		slices.Reverse(list[:n])
		before := slices.Clone(list)
		x, _ := action.New(list[:n]...)
		if !slices.Equal(list, before) {
			t.Error("New changed the list:", list)
		}
		for i := range list {
			list[i] = row(77, 3, 3)
		}
		holds(t, "the list changed since", x, true, some(n)...)
		got, other := x.Rows(), x.Rows()
		got = got[:cap(got)]
		for i := range got {
			got[i] = row(66, 2, 2)
		}
		if !slices.Equal(other, some(n)) {
			t.Error("another list of Rows was changed:", other)
		}
		holds(t, "Rows changed since", x, true, some(n)...)
	}
}
