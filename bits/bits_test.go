package bits_test

import (
	"math"
	"slices"
	"strconv"
	"strings"
	"testing"

	"aerie/api"
	"aerie/bits"
)

const full = bits.Set(0xffff)

// wrong are numbers that are no unit; some are 3 but for bits far up.
var wrong = []int{math.MinInt, -1<<32 + 3, -65536 + 3, -17, -16, -13, -1, 16, 17, 19, 32, 35, 64, 67, 65535, 65536 + 3, 1<<32 + 3, math.MaxInt}

// units are the elements of a set, taken off its number.
func units(s bits.Set) []int {
	var l []int
	n := int(s)
	for i := 0; n > 0; i++ {
		if n%2 == 1 {
			l = append(l, i)
		}
		n /= 2
	}
	return l
}

// some are sets of all kinds: the ends, single units, their complements, and
// a mix.
func some() []bits.Set {
	l := []bits.Set{0, full, 0xff00, 0x00ff, 0xaaaa, 0x5555, 0x8001, 0x7ffe}
	for i := range 16 {
		l = append(l, 1<<i, ^bits.Set(1<<i), 1<<i-1)
	}
	n := uint32(1)
	for range 60 {
		n = n*1664525 + 1013904223
		l = append(l, bits.Set(n>>16))
	}
	return l
}

func yielded(s bits.Set) []int {
	var l []int
	for i := range s.All() {
		l = append(l, i)
	}
	return l
}

func TestOf(t *testing.T) {
	for _, x := range []struct {
		l    []int
		want bits.Set
	}{
		{nil, 0}, {[]int{}, 0}, {[]int{0}, 1}, {[]int{15}, 0x8000}, {[]int{3, 1, 99}, 0xa}, {[]int{1, 1, 1}, 2},
		{[]int{15, 0, 7}, 0x8081}, {[]int{-1, 16}, 0}, {[]int{-1, 4, 16}, 0x10},
		{[]int{0, 1, 2, 3, 4, 5, 6, 7, 8, 9, 10, 11, 12, 13, 14, 15}, full}, {wrong, 0},
	} {
		if got := bits.Of(x.l...); got != x.want {
			t.Errorf("Of(%v) = %x, want %x", x.l, got, x.want)
		}
	}
	for i := range api.MaxUnits {
		if got := bits.Of(i); got != 1<<i {
			t.Errorf("Of(%d) = %x", i, got)
		}
	}
}

func TestHas(t *testing.T) {
	for _, s := range some() {
		l := units(s)
		for i := range 16 {
			if got := s.Has(i); got != slices.Contains(l, i) {
				t.Errorf("%x.Has(%d) = %t", s, i, got)
			}
		}
		for _, i := range wrong {
			if s.Has(i) {
				t.Errorf("%x.Has(%d)", s, i)
			}
		}
	}
}

func TestWithAndWithout(t *testing.T) {
	for _, x := range []struct {
		s             bits.Set
		l             []int
		with, without bits.Set
	}{
		{0, nil, 0, 0}, {0xa, nil, 0xa, 0xa}, {full, nil, full, full},
		{0xa, []int{2}, 0xe, 0xa}, {0xa, []int{3}, 0xa, 2}, {0xa, []int{1, 3}, 0xa, 0}, {0xa, []int{0, 1, 15}, 0x800b, 8},
		{0, []int{5, 5}, 0x20, 0}, {full, []int{0, 15}, full, 0x7ffe},
		{0xa, wrong, 0xa, 0xa}, {full, wrong, full, full}, {0, wrong, 0, 0}, {8, []int{-1, 3, 16, 4}, 0x18, 0},
	} {
		if got := x.s.With(x.l...); got != x.with {
			t.Errorf("%x.With(%v) = %x, want %x", x.s, x.l, got, x.with)
		}
		if got := x.s.Without(x.l...); got != x.without {
			t.Errorf("%x.Without(%v) = %x, want %x", x.s, x.l, got, x.without)
		}
	}
}

func TestOr(t *testing.T) {
	for _, s := range some() {
		if got := s.Or(); got != s {
			t.Errorf("%x.Or() = %x", s, got)
		}
	}
	for _, x := range []struct {
		s    bits.Set
		l    []bits.Set
		want bits.Set
	}{
		{0xa, []bits.Set{}, 0xa}, {0xa, []bits.Set{0}, 0xa}, {0xa, []bits.Set{0xc}, 0xe}, {0, []bits.Set{1, 2, 0x8000}, 0x8003},
		{1, []bits.Set{full, 0}, full}, {1, []bits.Set{2, 2, 1}, 3},
	} {
		if got := x.s.Or(x.l...); got != x.want {
			t.Errorf("%x.Or(%x) = %x, want %x", x.s, x.l, got, x.want)
		}
	}
}

func TestTwoSets(t *testing.T) {
	for _, a := range some() {
		for _, b := range some() {
			var either, both, less []int
			within := true
			for i := range 16 {
				inA, inB := slices.Contains(units(a), i), slices.Contains(units(b), i)
				if inA || inB {
					either = append(either, i)
				}
				if inA && inB {
					both = append(both, i)
				}
				if inA && !inB {
					less = append(less, i)
					within = false
				}
			}
			if !slices.Equal(units(a.Or(b)), either) || !slices.Equal(units(a.And(b)), both) || !slices.Equal(units(a.Less(b)), less) {
				t.Fatalf("%x, %x: Or %x, And %x, Less %x", a, b, a.Or(b), a.And(b), a.Less(b))
			}
			if a.Within(b) != within {
				t.Fatalf("%x.Within(%x) = %t", a, b, !within)
			}
		}
	}
}

func TestWithin(t *testing.T) {
	for _, x := range []struct {
		s, t bits.Set
		want bool
	}{
		{0xa, 0xa, true}, {0xa, 0xe, true}, {0xa, 2, false}, {0xa, 0, false}, {0xa, 0x14, false}, {0xa, full, true},
		{0, 0, true}, {0, 5, true}, {full, full, true}, {full, 0x7fff, false}, {full, 0xfffe, false}, {0x8000, 0x7fff, false},
	} {
		if got := x.s.Within(x.t); got != x.want {
			t.Errorf("%x.Within(%x) = %t", x.s, x.t, got)
		}
	}
}

// TestEverySet holds each of the 65536 sets against the list of its units.
func TestEverySet(t *testing.T) {
	for n := range 65536 {
		s := bits.Set(n)
		l := units(s)
		if s.Count() != len(l) || !slices.Equal(yielded(s), l) || bits.Of(l...) != s {
			t.Fatalf("%x: Count %d, All %v", s, s.Count(), yielded(s))
		}
		first, words := -1, []string{}
		for _, i := range l {
			words = append(words, strconv.Itoa(i))
		}
		text := "-"
		if len(l) > 0 {
			first, text = l[0], strings.Join(words, " ")
		}
		if s.First() != first || s.Text() != text {
			t.Fatalf("%x: First %d, Text %q", s, s.First(), s.Text())
		}
	}
}

func TestNext(t *testing.T) {
	for _, s := range some() {
		for i := -20; i < 40; i++ {
			want := -1
			for _, unit := range units(s) {
				if unit >= i && want < 0 {
					want = unit
				}
			}
			if got := s.Next(i); got != want {
				t.Fatalf("%x.Next(%d) = %d, want %d", s, i, got, want)
			}
		}
	}
	for _, i := range wrong {
		want := -1
		if i < 0 {
			want = 2
		}
		if got := bits.Set(0x8004).Next(i); got != want {
			t.Errorf("Next(%d) = %d, want %d", i, got, want)
		}
		if got := bits.Set(0).Next(i); got != -1 {
			t.Errorf("of the empty set: Next(%d) = %d", i, got)
		}
	}
}

func TestFirstAndCount(t *testing.T) {
	for _, x := range []struct {
		s            bits.Set
		first, count int
	}{{0, -1, 0}, {full, 0, 16}, {0x8000, 15, 1}, {1, 0, 1}, {0xa, 1, 2}} {
		if x.s.First() != x.first || x.s.Count() != x.count {
			t.Errorf("%x: First %d, Count %d", x.s, x.s.First(), x.s.Count())
		}
	}
}

func TestAllStoppedAndAgain(t *testing.T) {
	s := bits.Of(0, 4, 9, 15)
	all := s.All()
	for stop, want := range [][]int{{0}, {0, 4}, {0, 4, 9}, {0, 4, 9, 15}} {
		var got []int
		for i := range all {
			got = append(got, i)
			if len(got) > stop {
				break
			}
		}
		if !slices.Equal(got, want) {
			t.Errorf("stopped after %d: %v", stop+1, got)
		}
	}
	calls := 0
	all(func(int) bool {
		calls++
		return false
	})
	if calls != 1 {
		t.Errorf("stopped at once, it yielded %d times", calls)
	}
	// A later set of the same variable doesn't show.
	s = s.Without(4).With(1)
	for range 2 {
		var got []int
		for i := range all {
			got = append(got, i)
		}
		if !slices.Equal(got, []int{0, 4, 9, 15}) {
			t.Error("run again:", got)
		}
	}
	if got := yielded(s); !slices.Equal(got, []int{0, 1, 9, 15}) {
		t.Error(got)
	}
	for i := range bits.Set(0).All() {
		t.Error("of the empty set:", i)
	}
}

func TestText(t *testing.T) {
	for _, x := range []struct {
		s    bits.Set
		want string
	}{
		{0, "-"}, {bits.Of(3, 1, 99), "1 3"}, {1, "0"}, {0x8000, "15"}, {0x8401, "0 10 15"},
		{full, "0 1 2 3 4 5 6 7 8 9 10 11 12 13 14 15"},
	} {
		if got := x.s.Text(); got != x.want {
			t.Errorf("%x: %q, want %q", x.s, got, x.want)
		}
	}
}

// TestArgumentsStay: a set is a value, and its operations change nothing else.
func TestArgumentsStay(t *testing.T) {
	l := []int{3, 1, 99, 77, -1}
	sets := []bits.Set{1, 2, 4, 8}
	s := bits.Set(0xf0)
	bits.Of(l[:3]...)
	s.With(l[:3]...)
	s.Without(l[:3]...)
	s.Or(sets[:2]...)
	s.And(1)
	s.Less(0x10)
	if s != 0xf0 || !slices.Equal(l, []int{3, 1, 99, 77, -1}) || !slices.Equal(sets, []bits.Set{1, 2, 4, 8}) {
		t.Error("changed:", s, l, sets)
	}
}
