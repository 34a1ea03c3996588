package retry_test

import (
	"math"
	"slices"
	"testing"

	"aerie/bits"
	"aerie/context"
	"aerie/retry"
)

// noRoles are numbers that are no role, most of which would be one if they were
// cut to fewer bits.
var noRoles = []int{-1, -6, -5, -256, 6, 7, 8, 15, 16, 255, 256, 259, 65536, 1 << 32, 1<<32 + 2, math.MinInt32, math.MaxInt32, math.MinInt, math.MinInt + 1, math.MaxInt - 1, math.MaxInt}

// edges are numbers a limit and a Retry may have.
var edges = []uint8{0, 1, 2, 3, 127, 128, 129, 253, 254, 255}

// with is a context with these Retries, and a value in each other field.
func with(l ...uint8) context.Context {
	c := context.Context{
		Failed:    0x8102,
		Inhibited: 0x1234,
		Chain:     [6]int8{-1, 0, 1, 14, 15, 7},
		Mode:      3,
		Resets:    0xabcd,
		Exhausted: true,
		Inhibit:   0x15,
	}
	copy(c.Retry[:], l)
	return c
}

// spent is what Spend is to return, by the words of the chapter.
func spent(l retry.Limits, c context.Context, roles []int) (context.Context, bool) {
	var times [6]int
	for _, role := range roles {
		if role < 0 || role > 5 {
			return c, false
		}
		times[role]++
	}
	after := c
	for role, n := range times {
		if n > 0 && int(c.Retry[role])+n > int(l[role]) {
			return c, false
		}
		after.Retry[role] = uint8(int(c.Retry[role]) + n)
	}
	return after, true
}

// spends checks May and Spend.
func spends(t *testing.T, l retry.Limits, c context.Context, roles ...int) {
	t.Helper()
	limits, before, list := l, c, slices.Clone(roles)
	want, wantOK := spent(l, c, roles)
	if got := l.May(c, roles...); got != wantOK {
		t.Errorf("limits %v, Retry %v: May(%v) = %t", l, c.Retry, roles, got)
	}
	if got, ok := l.Spend(c, roles...); got != want || ok != wantOK {
		t.Errorf("limits %v: Spend(%v, %v) = %v, %t, want %v, %t", l, c, roles, got, ok, want, wantOK)
	}
	if l != limits || c != before || !slices.Equal(roles, list) {
		t.Error("what was handed in was changed")
	}
}

// may checks that May and Spend are what is told here.
func may(t *testing.T, l retry.Limits, c context.Context, want bool, roles ...int) {
	t.Helper()
	if got := l.May(c, roles...); got != want {
		t.Errorf("limits %v, Retry %v: May(%v) = %t", l, c.Retry, roles, got)
	}
	if _, ok := l.Spend(c, roles...); ok != want {
		t.Errorf("limits %v, Retry %v: Spend(%v) = %t", l, c.Retry, roles, ok)
	}
	spends(t, l, c, roles...)
}

// tells checks Left, Sum, Spent and Total.
func tells(t *testing.T, l retry.Limits, c context.Context) {
	t.Helper()
	var left, sum, total int
	var full bits.Set
	for role := range 6 {
		limit, n := int(l[role]), int(c.Retry[role])
		sum += limit
		total += n
		if n < limit {
			left += limit - n
		} else {
			full |= 1 << role
		}
	}
	limits, before := l, c
	if got := l.Left(c); got != left {
		t.Errorf("limits %v, Retry %v: Left = %d, want %d", l, c.Retry, got, left)
	}
	if got := l.Sum(); got != sum {
		t.Errorf("limits %v: Sum = %d, want %d", l, got, sum)
	}
	if got := l.Spent(c); got != full {
		t.Errorf("limits %v, Retry %v: Spent = %s, want %s", l, c.Retry, got.Text(), full.Text())
	}
	if got := retry.Total(c); got != total {
		t.Errorf("Retry %v: Total = %d, want %d", c.Retry, got, total)
	}
	if l != limits || c != before {
		t.Error("what was handed in was changed")
	}
}

// TestExample: the chapter's.
func TestExample(t *testing.T) {
	l, c := retry.Limits{2}, context.Default()
	for n := range 4 {
		after, ok := l.Spend(c, 0)
		want := context.Default()
		want.Retry[0] = uint8(min(n+1, 2))
		if after != want || ok != (n < 2) {
			t.Errorf("the Spend after %d: %v, %t", n, after, ok)
		}
		c = after
	}
	may(t, l, c, false, 0)
	may(t, l, context.Default(), false, 1)
}

func TestMay(t *testing.T) {
	l := retry.Limits{0, 1, 2, 3, 254, 255}
	c := with(0, 0, 1, 4, 253, 254)
	for _, x := range []struct {
		want  bool
		roles []int
	}{
		{true, nil}, {true, []int{}},
		{false, []int{0}}, {true, []int{1}}, {true, []int{2}}, {false, []int{3}}, {true, []int{4}}, {true, []int{5}},
		{true, []int{1, 2, 4, 5}}, {true, []int{5, 4, 2, 1}}, {false, []int{1, 2, 4, 5, 0}}, {false, []int{0, 1, 2, 4, 5}}, {false, []int{1, 3, 2}},
		{false, []int{1, 1}}, {false, []int{2, 2}}, {false, []int{4, 4}}, {false, []int{5, 5}}, {false, []int{1, 2, 1}},
		{false, []int{1, 2, 6}}, {false, []int{-1, 1, 2}}, {false, []int{1, 99, 2}},
	} {
		may(t, l, c, x.want, x.roles...)
	}
	// One that occurs twice, and thrice.
	l, c = retry.Limits{2, 3, 5, 255, 255, 255}, with(0, 1, 2, 0, 252, 253)
	for _, x := range []struct {
		want  bool
		roles []int
	}{
		{true, []int{0, 0}}, {false, []int{0, 0, 0}}, {true, []int{1, 1}}, {false, []int{1, 1, 1}}, {true, []int{2, 2, 2}}, {false, []int{2, 2, 2, 2}},
		{true, []int{0, 1, 0, 1}}, {true, []int{2, 0, 1, 2, 0, 1, 2}}, {false, []int{2, 0, 1, 2, 0, 1, 2, 1}},
		{true, []int{4, 4, 4}}, {false, []int{4, 4, 4, 4}}, {true, []int{5, 5}}, {false, []int{5, 5, 5}},
		{true, make([]int, 2)}, {false, make([]int, 300)}, {false, make([]int, 100000)}, {true, slices.Repeat([]int{3}, 255)}, {false, slices.Repeat([]int{3}, 256)}, {false, slices.Repeat([]int{3}, 257)}, {false, slices.Repeat([]int{3}, 512)},
	} {
		may(t, l, c, x.want, x.roles...)
	}
}

// TestSpendEach: each role with each Retry under limits at their edges, up to
// four times.
func TestSpendEach(t *testing.T) {
	for role := range 6 {
		for _, limit := range edges {
			for n := range 256 {
				l, c := retry.Limits{9, 9, 9, 9, 9, 9}, with(1, 2, 3, 4, 5, 6)
				l[role], c.Retry[role] = limit, uint8(n)
				for times := range 5 {
					spends(t, l, c, slices.Repeat([]int{role}, times)...)
				}
				spends(t, l, c, role, (role+1)%6, role)
				spends(t, l, c, (role+5)%6, role)
			}
		}
	}
}

// TestSpendNoRole: a number that is no role, alone and among roles.
func TestSpendNoRole(t *testing.T) {
	for _, l := range []retry.Limits{{}, {1, 2, 3, 4, 5, 6}, {255, 255, 255, 255, 255, 255}} {
		for _, n := range noRoles {
			for _, roles := range [][]int{{n}, {n, n}, {0, n}, {n, 0}, {0, 1, 2, n, 3, 4, 5}, {5, 5, n}} {
				may(t, l, with(), false, roles...)
			}
		}
	}
}

func TestSums(t *testing.T) {
	for _, x := range []struct {
		l    retry.Limits
		c    context.Context
		left int
	}{
		{retry.Limits{}, with(), 0}, {retry.Limits{}, with(1, 2, 3, 4, 5, 6), 0}, {retry.Limits{}, with(255, 255, 255, 255, 255, 255), 0},
		{retry.Limits{255, 255, 255, 255, 255, 255}, with(), 1530}, {retry.Limits{255, 255, 255, 255, 255, 255}, with(255, 255, 255, 255, 255, 255), 0},
		{retry.Limits{255, 255, 255, 255, 255, 255}, with(254, 254, 254, 254, 254, 254), 6}, {retry.Limits{255, 255, 255, 255, 255, 255}, with(1, 2, 3, 4, 5, 6), 1509},
		{retry.Limits{1, 2, 3, 4, 5, 6}, with(), 21}, {retry.Limits{1, 2, 3, 4, 5, 6}, with(1, 2, 3, 4, 5, 6), 0}, {retry.Limits{1, 2, 3, 4, 5, 6}, with(6, 5, 4, 3, 2, 1), 9},
		{retry.Limits{3, 3}, with(0, 255), 3}, {retry.Limits{0, 0, 0, 0, 0, 7}, with(9, 9, 9, 9, 9, 2), 5},
	} {
		if got := x.l.Left(x.c); got != x.left {
			t.Errorf("limits %v, Retry %v: Left = %d, want %d", x.l, x.c.Retry, got, x.left)
		}
		tells(t, x.l, x.c)
	}
	if got := (retry.Limits{255, 255, 255, 255, 255, 255}).Sum(); got != 1530 {
		t.Errorf("limits of 255: Sum = %d", got)
	}
	if got := retry.Total(with(255, 255, 255, 255, 255, 255)); got != 1530 {
		t.Errorf("Retries of 255: Total = %d", got)
	}
	if got := (retry.Limits{1, 2, 3}).Spent(with(1, 1, 4)); got != bits.Of(0, 2, 3, 4, 5) {
		t.Errorf("Spent = %s", got.Text())
	}
	if got := (retry.Limits{1, 1, 1, 1, 1, 1}).Spent(with()); got != 0 {
		t.Errorf("none spent: Spent = %s", got.Text())
	}
}

// TestSumsEach: each role with each limit and each Retry, among others.
func TestSumsEach(t *testing.T) {
	for role := range 6 {
		for limit := range 256 {
			for n := range 256 {
				l, c := retry.Limits{10, 0, 255, 7, 7, 7}, with(3, 0, 255, 7, 8, 6)
				l[role], c.Retry[role] = uint8(limit), uint8(n)
				tells(t, l, c)
			}
			if t.Failed() {
				t.FailNow()
			}
		}
	}
}

func TestClear(t *testing.T) {
	full := []uint8{1, 2, 3, 254, 255, 6}
	for _, x := range []struct {
		roles []int
		want  []uint8
	}{
		{nil, full}, {[]int{}, full},
		{[]int{0}, []uint8{0, 2, 3, 254, 255, 6}}, {[]int{1}, []uint8{1, 0, 3, 254, 255, 6}}, {[]int{2}, []uint8{1, 2, 0, 254, 255, 6}},
		{[]int{3}, []uint8{1, 2, 3, 0, 255, 6}}, {[]int{4}, []uint8{1, 2, 3, 254, 0, 6}}, {[]int{5}, []uint8{1, 2, 3, 254, 255, 0}},
		{[]int{4, 1}, []uint8{1, 0, 3, 254, 0, 6}}, {[]int{4, 4, 4}, []uint8{1, 2, 3, 254, 0, 6}}, {[]int{0, 1, 2, 3, 4, 5}, nil}, {[]int{5, 4, 3, 2, 1, 0, 5}, nil},
		{[]int{-1, 6, 99}, full}, {noRoles, full}, {append([]int{2}, noRoles...), []uint8{1, 2, 0, 254, 255, 6}}, {append(slices.Clone(noRoles), 5, 0), []uint8{0, 2, 3, 254, 255, 0}},
	} {
		for _, l := range []retry.Limits{{}, {2, 2, 2, 2, 2, 2}, {255, 255, 255, 255, 255, 255}} {
			for _, exhausted := range []bool{true, false} {
				c, want, list := with(full...), with(x.want...), slices.Clone(x.roles)
				c.Exhausted, want.Exhausted = exhausted, false
				before, limits := c, l
				if got := l.Clear(c, x.roles...); got != want {
					t.Errorf("Clear(%v, %v) = %v, want %v", c, x.roles, got, want)
				}
				if c != before || l != limits || !slices.Equal(x.roles, list) {
					t.Error("what was handed in was changed")
				}
			}
		}
	}
	for _, n := range noRoles {
		want := with(full...)
		want.Exhausted = false
		if got := (retry.Limits{}).Clear(with(full...), n); got != want {
			t.Errorf("Clear of %d: %v", n, got)
		}
	}
}

// TestClearEach: each choice of roles.
func TestClearEach(t *testing.T) {
	for n := range 64 {
		c := with(9, 8, 7, 6, 5, 255)
		want := c
		want.Exhausted = false
		var roles []int
		for role := range 6 {
			if n>>role&1 == 1 {
				roles = append(roles, role)
				want.Retry[role] = 0
			}
		}
		if got := (retry.Limits{1, 2, 3, 4, 5, 6}).Clear(c, roles...); got != want {
			t.Errorf("Clear(%v) = %v, want %v", roles, got, want)
		}
	}
}

// TestNotRight: a context whose other fields are beyond their ranges is taken
// as any.
func TestNotRight(t *testing.T) {
	c := with(1, 2, 3, 4, 5, 6)
	c.Mode, c.Inhibit, c.Chain = 99, 255, [6]int8{-128, 127, 16, 99, -2, 17}
	l := retry.Limits{2, 3, 4, 5, 6, 7}
	may(t, l, c, true, 0, 1, 2, 3, 4, 5)
	may(t, l, c, false, 0, 1, 2, 3, 4, 5, 3)
	tells(t, l, c)
	want := c
	want.Retry, want.Exhausted = [6]uint8{0, 2, 3, 4, 5, 0}, false
	if got := l.Clear(c, 0, 5); got != want {
		t.Errorf("Clear = %v, want %v", got, want)
	}
}

// TestBounded: from nothing, each role may be switched over as often as its
// limit says, and after Clear again.
func TestBounded(t *testing.T) {
	for _, l := range []retry.Limits{{}, {1, 2, 3, 0, 5, 6}, {255, 255, 255, 255, 255, 255}, {0, 0, 0, 0, 0, 200}} {
		c := context.Default()
		for range 2 {
			spentOnes := 0
			for range 300 {
				for role := range 6 {
					after, ok := l.Spend(c, role)
					if ok {
						spentOnes++
					}
					c = after
				}
				if retry.Total(c) != spentOnes || l.Left(c) != l.Sum()-spentOnes {
					t.Fatalf("limits %v, after %d: Total %d, Left %d", l, spentOnes, retry.Total(c), l.Left(c))
				}
			}
			if spentOnes != l.Sum() || c.Retry != l || l.Spent(c) != bits.Of(0, 1, 2, 3, 4, 5) {
				t.Errorf("limits %v: spent %d, %v", l, spentOnes, c.Retry)
			}
			c = l.Clear(c, 0, 1, 2, 3, 4, 5)
			if c != context.Default() {
				t.Errorf("limits %v: Clear of all: %v", l, c)
			}
		}
	}
}

// draws gives numbers below n, the same ones in each run.
func draws(seed uint32) func(n int) int {
	return func(n int) int {
		seed = seed*1664525 + 1013904223
		return int(seed>>8) % n
	}
}

// TestAgainstPlain: many limits, contexts and lists of roles.
func TestAgainstPlain(t *testing.T) {
	draw := draws(19)
	for range 20000 {
		l, c := retry.Limits{}, with()
		for role := range l {
			l[role] = edges[draw(len(edges))]
			c.Retry[role] = uint8(int(l[role]) + draw(9) - 6) // about the limit, and around it
		}
		c.Exhausted = draw(2) == 0
		var roles []int
		for range draw(7) {
			roles = append(roles, draw(6))
		}
		if draw(8) == 0 {
			roles = append(roles, noRoles[draw(len(noRoles))])
		}
		spends(t, l, c, roles...)
		tells(t, l, c)
		if t.Failed() {
			t.FailNow()
		}
	}
}

// TestMemory: the list of roles stays as it is, and what it has to spare.
func TestMemory(t *testing.T) {
	list := []int{1, 1, 0, 5, 3, 9, 2}
	before := slices.Clone(list)
	l, c := retry.Limits{3, 3, 3, 3, 3, 3}, with()
	l.May(c, list[:5]...)
	l.Spend(c, list[:5]...)
	l.Clear(c, list[:5]...)
	if !slices.Equal(list, before) {
		t.Error("the list was changed:", list)
	}
}
