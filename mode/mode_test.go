package mode_test

import (
	"testing"

	"aerie/api"
	"aerie/mode"
)

const (
	safe     = api.Safe
	detumble = api.Detumble
	sun      = api.Sun
	nominal  = api.Nominal
)

// noModes are numbers of modes that there aren't.
var noModes = []byte{4, 5, 6, 7, 8, 16, 64, 127, 128, 129, 130, 131, 132, 254, 255}

// auto has this mode and these counts.
func auto(m byte, since uint16, calm, seen, dark uint8) mode.Auto {
	return mode.Auto{Mode: m, Since: since, Calm: calm, Seen: seen, Dark: dark}
}

// config has these numbers, and timeouts of Safe and of Nominal that mean
// nothing, but would be reached at once.
func config(calm, seen, lost uint8, detumble, sun uint16) mode.Config {
	return mode.Config{Calm: calm, Seen: seen, Lost: lost, Timeout: [4]uint16{1, detumble, sun, 1}}
}

// never is a configuration by which no mode is left by itself.
var never = config(0, 0, 0, 0, 0)

// hasty is one by which each mode is left as soon as may be.
var hasty = config(1, 255, 1, 1, 1)

// steps checks a Step.
func steps(t *testing.T, a mode.Auto, c mode.Config, calm, seen, safe bool, want mode.Auto, code byte) {
	t.Helper()
	before := a
	if got, gotCode := a.Step(c, calm, seen, safe); got != want || gotCode != code {
		t.Errorf("%v.Step(%v, %t, %t, %t) = %v, %d, want %v, %d", a, c, calm, seen, safe, got, gotCode, want, code)
	}
	if a != before {
		t.Errorf("Step changed %v to %v", before, a)
	}
}

// asks checks an Ask.
func asks(t *testing.T, a mode.Auto, c mode.Config, m byte, want mode.Auto, err api.Errno) {
	t.Helper()
	before := a
	if got, gotErr := a.Ask(c, m); got != want || gotErr != err {
		t.Errorf("%v.Ask(%v, %d) = %v, %d, want %v, %d", a, c, m, got, gotErr, want, err)
	}
	if a != before {
		t.Errorf("Ask changed %v to %v", before, a)
	}
}

// TestExample: the chapter's.
func TestExample(t *testing.T) {
	for _, calm := range []uint8{1, 2, 3, 10, 254, 255} {
		c := config(calm, 3, 3, 0, 0)
		a, err := mode.Auto{}.Ask(c, detumble)
		if a != auto(detumble, 0, 0, 0, 0) || err != api.OK {
			t.Fatal(a, err)
		}
		for n := uint8(1); n < calm; n++ {
			steps(t, a, c, true, false, false, auto(detumble, uint16(n), n, 0, n), mode.Stays)
			a, _ = a.Step(c, true, false, false)
		}
		steps(t, a, c, true, false, false, auto(sun, 0, 0, 0, 0), mode.Rose)
	}
}

// TestTypes: the fields, their sizes, and what has happened are the chapter's.
func TestTypes(t *testing.T) {
	var c struct {
		Calm    uint8
		Seen    uint8
		Lost    uint8
		Timeout [4]uint16
	}
	var a struct {
		Mode  byte
		Since uint16
		Calm  uint8
		Seen  uint8
		Dark  uint8
	}
	if mode.Config(c) != (mode.Config{}) || mode.Auto(a) != (mode.Auto{}) {
		t.Error("fields")
	}
	if [5]int{mode.Stays, mode.Fell, mode.Rose, mode.Late, mode.Dark} != [5]int{0, 1, 2, 3, 4} {
		t.Error("what has happened")
	}
}

func TestRight(t *testing.T) {
	for m := range 256 {
		for _, a := range []mode.Auto{auto(byte(m), 0, 0, 0, 0), auto(byte(m), 65535, 255, 255, 255), auto(byte(m), 1, 2, 3, 4)} {
			if got := a.Right(); got != (m == 0 || m == 1 || m == 2 || m == 3) {
				t.Errorf("%v.Right() = %t", a, got)
			}
		}
	}
}

func TestName(t *testing.T) {
	names := []string{"safe", "detumble", "sun", "nominal"}
	for m := range 256 {
		want := ""
		if m < 4 {
			want = names[m]
		}
		if got := mode.Name(byte(m)); got != want {
			t.Errorf("Name(%d) = %q, want %q", m, got, want)
		}
	}
	if mode.Name(safe) != "safe" || mode.Name(detumble) != "detumble" || mode.Name(sun) != "sun" || mode.Name(nominal) != "nominal" {
		t.Error("the names of api's modes")
	}
}

func TestFall(t *testing.T) {
	for m := range byte(4) {
		for _, a := range []mode.Auto{auto(m, 0, 0, 0, 0), auto(m, 65535, 255, 255, 255), auto(m, 9, 0, 0, 0), auto(m, 0, 9, 0, 0), auto(m, 0, 0, 9, 0), auto(m, 0, 0, 0, 9)} {
			before := a
			if got := a.Fall(); got != auto(safe, 0, 0, 0, 0) || a != before {
				t.Errorf("%v.Fall() = %v", before, got)
			}
		}
	}
}

func TestBound(t *testing.T) {
	for _, x := range []struct {
		c    mode.Config
		want int
	}{
		{mode.Config{}, 0}, {never, 0},
		{mode.Config{Timeout: [4]uint16{65535, 0, 0, 65535}}, 0}, {mode.Config{Seen: 255, Lost: 255}, 0},
		{config(255, 0, 0, 0, 0), 255}, {config(0, 0, 0, 65535, 0), 65535}, {config(0, 0, 0, 0, 65535), 65535},
		{config(0, 255, 255, 65535, 65535), 131070}, {config(255, 0, 0, 65535, 65535), 131325},
		{mode.Config{Calm: 255, Seen: 255, Lost: 255, Timeout: [4]uint16{65535, 65535, 65535, 65535}}, 131325},
		{config(3, 4, 5, 50, 60), 113}, {config(1, 0, 0, 0, 0), 1}, {config(0, 0, 0, 1, 0), 1}, {config(0, 0, 0, 0, 1), 1},
	} {
		if got := mode.Bound(x.c); got != x.want {
			t.Errorf("Bound(%v) = %d, want %d", x.c, got, x.want)
		}
	}
}

// TestSafe: a request of safe mode, whatever else is.
func TestSafe(t *testing.T) {
	for _, c := range []mode.Config{never, hasty, config(9, 9, 9, 9, 9), {}} {
		for flags := range 4 {
			calm, seen := flags&1 != 0, flags&2 != 0
			for _, m := range []byte{detumble, sun, nominal} {
				for _, a := range []mode.Auto{auto(m, 0, 0, 0, 0), auto(m, 65535, 255, 255, 0), auto(m, 8, 8, 0, 8), auto(m, 7, 3, 4, 0)} {
					steps(t, a, c, calm, seen, true, auto(safe, 0, 0, 0, 0), mode.Fell)
				}
			}
		}
		// In Safe: nothing has to fall, and the counts go on.
		steps(t, auto(safe, 0, 0, 0, 0), c, true, true, true, auto(safe, 1, 1, 1, 0), mode.Stays)
		steps(t, auto(safe, 7, 5, 3, 0), c, true, true, true, auto(safe, 8, 6, 4, 0), mode.Stays)
		steps(t, auto(safe, 7, 5, 3, 0), c, false, false, true, auto(safe, 8, 0, 0, 1), mode.Stays)
		steps(t, auto(safe, 65535, 255, 0, 255), c, true, false, true, auto(safe, 65535, 255, 0, 255), mode.Stays)
	}
}

// TestCounts: in each mode, while nothing makes it leave.
func TestCounts(t *testing.T) {
	for m := range byte(4) {
		for _, x := range []struct {
			a          mode.Auto
			calm, seen bool
			want       mode.Auto
		}{
			{auto(m, 0, 0, 0, 0), true, true, auto(m, 1, 1, 1, 0)}, {auto(m, 0, 0, 0, 0), false, false, auto(m, 1, 0, 0, 1)},
			{auto(m, 0, 0, 0, 0), true, false, auto(m, 1, 1, 0, 1)}, {auto(m, 0, 0, 0, 0), false, true, auto(m, 1, 0, 1, 0)},
			// Calm ends, and the others go on; the sun is lost, or seen again, and calm goes on.
			{auto(m, 9, 7, 5, 0), false, true, auto(m, 10, 0, 6, 0)}, {auto(m, 9, 7, 0, 5), false, false, auto(m, 10, 0, 0, 6)},
			{auto(m, 9, 7, 5, 0), true, false, auto(m, 10, 8, 0, 1)}, {auto(m, 9, 7, 0, 5), true, true, auto(m, 10, 8, 1, 0)},
			{auto(m, 9, 0, 5, 0), true, true, auto(m, 10, 1, 6, 0)},
			// At the ends.
			{auto(m, 65533, 0, 0, 1), false, false, auto(m, 65534, 0, 0, 2)}, {auto(m, 65534, 0, 0, 1), false, false, auto(m, 65535, 0, 0, 2)}, {auto(m, 65535, 0, 0, 1), false, false, auto(m, 65535, 0, 0, 2)},
			{auto(m, 255, 1, 1, 0), true, true, auto(m, 256, 2, 2, 0)},
			{auto(m, 1, 253, 1, 0), true, true, auto(m, 2, 254, 2, 0)}, {auto(m, 1, 254, 1, 0), true, true, auto(m, 2, 255, 2, 0)}, {auto(m, 1, 255, 1, 0), true, true, auto(m, 2, 255, 2, 0)},
			{auto(m, 1, 1, 253, 0), true, true, auto(m, 2, 2, 254, 0)}, {auto(m, 1, 1, 254, 0), true, true, auto(m, 2, 2, 255, 0)}, {auto(m, 1, 1, 255, 0), true, true, auto(m, 2, 2, 255, 0)},
			{auto(m, 1, 1, 0, 253), true, false, auto(m, 2, 2, 0, 254)}, {auto(m, 1, 1, 0, 254), true, false, auto(m, 2, 2, 0, 255)}, {auto(m, 1, 1, 0, 255), true, false, auto(m, 2, 2, 0, 255)},
			{auto(m, 65535, 255, 255, 0), true, true, auto(m, 65535, 255, 255, 0)}, {auto(m, 65535, 255, 255, 0), false, false, auto(m, 65535, 0, 0, 1)},
			{auto(m, 65535, 255, 0, 255), true, false, auto(m, 65535, 255, 0, 255)}, {auto(m, 65535, 255, 0, 255), true, true, auto(m, 65535, 255, 1, 0)},
			// Counts that don't go together: each goes on by itself.
			{auto(m, 3, 200, 100, 50), true, true, auto(m, 4, 201, 101, 0)}, {auto(m, 3, 200, 100, 50), false, false, auto(m, 4, 0, 0, 51)},
		} {
			steps(t, x.a, never, x.calm, x.seen, false, x.want, mode.Stays)
			steps(t, x.a, mode.Config{}, x.calm, x.seen, false, x.want, mode.Stays)
		}
	}
}

// TestRose: from Detumble to Sun, as it is calm.
func TestRose(t *testing.T) {
	rose := auto(sun, 0, 0, 0, 0)
	for _, seen := range []bool{false, true} {
		c := config(1, 3, 3, 0, 0)
		steps(t, auto(detumble, 0, 0, 0, 0), c, true, seen, false, rose, mode.Rose)
		steps(t, auto(detumble, 500, 1, 0, 0), c, true, seen, false, rose, mode.Rose)
		steps(t, auto(detumble, 65535, 255, 255, 255), c, true, seen, false, rose, mode.Rose)
		c = config(255, 3, 3, 0, 0)
		steps(t, auto(detumble, 500, 254, 0, 0), c, true, seen, false, rose, mode.Rose)
		steps(t, auto(detumble, 500, 255, 0, 0), c, true, seen, false, rose, mode.Rose)
		c = config(7, 3, 3, 0, 0)
		steps(t, auto(detumble, 500, 6, 0, 0), c, true, seen, false, rose, mode.Rose)
		steps(t, auto(detumble, 500, 7, 0, 0), c, true, seen, false, rose, mode.Rose)
	}
	// One below, and no more calm.
	steps(t, auto(detumble, 500, 5, 1, 0), config(7, 3, 3, 0, 0), true, true, false, auto(detumble, 501, 6, 2, 0), mode.Stays)
	steps(t, auto(detumble, 500, 253, 1, 0), config(255, 3, 3, 0, 0), true, true, false, auto(detumble, 501, 254, 2, 0), mode.Stays)
	for _, calm := range []uint8{1, 7, 255} {
		steps(t, auto(detumble, 500, 255, 1, 0), config(calm, 3, 3, 0, 0), false, true, false, auto(detumble, 501, 0, 2, 0), mode.Stays)
	}
	// 0 is never.
	steps(t, auto(detumble, 500, 255, 1, 0), config(0, 3, 3, 0, 0), true, true, false, auto(detumble, 501, 255, 2, 0), mode.Stays)
	steps(t, auto(detumble, 0, 0, 0, 0), config(0, 3, 3, 0, 0), true, true, false, auto(detumble, 1, 1, 1, 0), mode.Stays)
	// In the other modes calm means nothing.
	for _, m := range []byte{safe, sun, nominal} {
		steps(t, auto(m, 0, 254, 0, 0), config(1, 0, 0, 0, 0), true, true, false, auto(m, 1, 255, 1, 0), mode.Stays)
		steps(t, auto(m, 0, 254, 0, 0), config(255, 0, 0, 0, 0), true, true, false, auto(m, 1, 255, 1, 0), mode.Stays)
	}
	// At the very cycle at which the timeout is reached, and behind it.
	steps(t, auto(detumble, 9, 6, 0, 0), config(7, 3, 3, 10, 0), true, false, false, rose, mode.Rose)
	steps(t, auto(detumble, 20, 6, 0, 0), config(7, 3, 3, 10, 0), true, false, false, rose, mode.Rose)
	steps(t, auto(detumble, 0, 0, 0, 0), hasty, true, false, false, rose, mode.Rose)
	steps(t, auto(detumble, 9, 5, 0, 0), config(7, 3, 3, 10, 0), true, false, false, auto(safe, 0, 0, 0, 0), mode.Late)
}

// TestDark: from Nominal to Sun, as the sun is lost.
func TestDark(t *testing.T) {
	dark := auto(sun, 0, 0, 0, 0)
	for _, calm := range []bool{false, true} {
		c := config(3, 3, 1, 0, 0)
		steps(t, auto(nominal, 0, 0, 0, 0), c, calm, false, false, dark, mode.Dark)
		steps(t, auto(nominal, 9, 4, 255, 0), c, calm, false, false, dark, mode.Dark)
		steps(t, auto(nominal, 65535, 255, 0, 255), c, calm, false, false, dark, mode.Dark)
		c = config(3, 3, 255, 0, 0)
		steps(t, auto(nominal, 300, 4, 0, 254), c, calm, false, false, dark, mode.Dark)
		steps(t, auto(nominal, 300, 4, 0, 255), c, calm, false, false, dark, mode.Dark)
		c = config(3, 3, 7, 0, 0)
		steps(t, auto(nominal, 300, 4, 0, 6), c, calm, false, false, dark, mode.Dark)
		steps(t, auto(nominal, 300, 4, 0, 7), c, calm, false, false, dark, mode.Dark)
	}
	// One below, and the sun seen again.
	steps(t, auto(nominal, 300, 4, 0, 5), config(3, 3, 7, 0, 0), true, false, false, auto(nominal, 301, 5, 0, 6), mode.Stays)
	steps(t, auto(nominal, 300, 4, 0, 253), config(3, 3, 255, 0, 0), true, false, false, auto(nominal, 301, 5, 0, 254), mode.Stays)
	for _, lost := range []uint8{1, 7, 255} {
		steps(t, auto(nominal, 300, 4, 0, 255), config(3, 3, lost, 0, 0), true, true, false, auto(nominal, 301, 5, 1, 0), mode.Stays)
	}
	// 0 is never.
	steps(t, auto(nominal, 300, 4, 0, 255), config(3, 3, 0, 0, 0), true, false, false, auto(nominal, 301, 5, 0, 255), mode.Stays)
	steps(t, auto(nominal, 0, 0, 0, 0), config(3, 3, 0, 0, 0), true, false, false, auto(nominal, 1, 1, 0, 1), mode.Stays)
	// In the other modes the dark means nothing.
	for _, m := range []byte{safe, detumble, sun} {
		steps(t, auto(m, 0, 0, 0, 254), config(0, 0, 1, 0, 0), true, false, false, auto(m, 1, 1, 0, 255), mode.Stays)
		steps(t, auto(m, 0, 0, 0, 254), config(0, 0, 255, 0, 0), true, false, false, auto(m, 1, 1, 0, 255), mode.Stays)
	}
}

// timeouts are those of a mode, with the other's never.
func timeouts(m byte, timeout uint16) mode.Config {
	c := config(0, 255, 0, 0, 0)
	c.Timeout[m] = timeout
	return c
}

// TestLate: in Detumble and in Sun.
func TestLate(t *testing.T) {
	late := auto(safe, 0, 0, 0, 0)
	for _, m := range []byte{detumble, sun} {
		for flags := range 4 {
			calm, seen := flags&1 != 0, flags&2 != 0
			for _, since := range []uint16{0, 1, 2, 65534, 65535} {
				steps(t, auto(m, since, 0, 0, 0), timeouts(m, 1), calm, seen, false, late, mode.Late)
			}
			for _, since := range []uint16{65534, 65535} {
				steps(t, auto(m, since, 9, 9, 9), timeouts(m, 65535), calm, seen, false, late, mode.Late)
			}
			for _, since := range []uint16{49, 50, 51, 1000} {
				steps(t, auto(m, since, 9, 9, 9), timeouts(m, 50), calm, seen, false, late, mode.Late)
			}
		}
		steps(t, auto(m, 48, 1, 1, 0), timeouts(m, 50), true, true, false, auto(m, 49, 2, 2, 0), mode.Stays)
		steps(t, auto(m, 65533, 1, 1, 0), timeouts(m, 65535), true, true, false, auto(m, 65534, 2, 2, 0), mode.Stays)
		steps(t, auto(m, 254, 1, 1, 0), timeouts(m, 256), true, true, false, auto(m, 255, 2, 2, 0), mode.Stays)
		// 0 is never; the other mode's timeout doesn't count.
		steps(t, auto(m, 65535, 1, 1, 0), timeouts(m, 0), true, true, false, auto(m, 65535, 2, 2, 0), mode.Stays)
		steps(t, auto(m, 0, 0, 0, 0), timeouts(m, 0), true, true, false, auto(m, 1, 1, 1, 0), mode.Stays)
		steps(t, auto(m, 65535, 1, 1, 0), timeouts(detumble+sun-m, 1), true, true, false, auto(m, 65535, 2, 2, 0), mode.Stays)
	}
	// Safe and Nominal last for ever.
	for _, m := range []byte{safe, nominal} {
		for _, timeout := range []uint16{1, 50, 65535} {
			steps(t, auto(m, 65535, 1, 1, 0), timeouts(m, timeout), true, true, false, auto(m, 65535, 2, 2, 0), mode.Stays)
			steps(t, auto(m, 49, 1, 0, 1), timeouts(m, timeout), true, false, false, auto(m, 50, 2, 0, 2), mode.Stays)
			steps(t, auto(m, 65535, 1, 1, 0), mode.Config{Seen: 255, Timeout: [4]uint16{timeout, timeout, timeout, timeout}}, true, true, false, auto(m, 65535, 2, 2, 0), mode.Stays)
		}
	}
}

// TestLateSeen: in Sun the timeout counts only while the sun isn't seen for
// long enough.
func TestLateSeen(t *testing.T) {
	late := auto(safe, 0, 0, 0, 0)
	for _, seen := range []uint8{1, 2, 7, 254, 255} {
		c := config(0, seen, 0, 10, 10)
		for _, since := range []uint16{9, 10, 65535} {
			after := max(since, min(since, 65534)+1)
			if seen > 1 { // the count is one below it
				steps(t, auto(sun, since, 0, seen-2, 0), c, false, true, false, late, mode.Late)
			}
			steps(t, auto(sun, since, 0, seen-1, 0), c, false, true, false, auto(sun, after, 0, seen, 0), mode.Stays)
			if seen < 255 { // it is one above it
				steps(t, auto(sun, since, 0, seen, 0), c, false, true, false, auto(sun, after, 0, seen+1, 0), mode.Stays)
			}
			steps(t, auto(sun, since, 0, 255, 0), c, false, true, false, auto(sun, after, 0, 255, 0), mode.Stays)
			// The sun is lost in that cycle.
			steps(t, auto(sun, since, 0, 255, 0), c, false, false, false, late, mode.Late)
			// In Detumble it doesn't count whether the sun is seen.
			for _, count := range []uint8{0, seen - 1, seen, 255} {
				steps(t, auto(detumble, since, 0, count, 0), c, true, true, false, late, mode.Late)
			}
		}
	}
	// No count is below 0.
	c := config(0, 0, 0, 10, 10)
	steps(t, auto(sun, 9, 0, 0, 9), c, false, false, false, auto(sun, 10, 0, 0, 10), mode.Stays)
	steps(t, auto(sun, 65535, 0, 9, 0), c, false, true, false, auto(sun, 65535, 0, 10, 0), mode.Stays)
	steps(t, auto(detumble, 9, 0, 9, 0), c, false, true, false, late, mode.Late)
	steps(t, auto(detumble, 9, 0, 0, 9), c, false, false, false, late, mode.Late)
}

// TestFromZero: after a change of the mode the counts begin again, and after
// Stays they go on.
func TestFromZero(t *testing.T) {
	for _, x := range []struct {
		a          mode.Auto
		c          mode.Config
		calm, seen bool
		safe       bool
		mode, code byte
	}{
		{auto(nominal, 9, 8, 7, 0), never, true, true, true, safe, mode.Fell},
		{auto(detumble, 9, 8, 7, 0), config(9, 9, 9, 0, 0), true, true, false, sun, mode.Rose},
		{auto(detumble, 9, 8, 7, 0), config(0, 9, 9, 10, 0), true, true, false, safe, mode.Late},
		{auto(sun, 9, 8, 7, 0), config(9, 9, 9, 0, 10), true, true, false, safe, mode.Late},
		{auto(nominal, 9, 8, 0, 6), config(9, 9, 7, 0, 0), true, false, false, sun, mode.Dark},
	} {
		steps(t, x.a, x.c, x.calm, x.seen, x.safe, auto(x.mode, 0, 0, 0, 0), x.code)
		a, _ := x.a.Step(x.c, x.calm, x.seen, x.safe)
		steps(t, a, never, true, true, false, auto(x.mode, 1, 1, 1, 0), mode.Stays)
		a, _ = a.Step(never, true, true, false)
		steps(t, a, never, true, false, false, auto(x.mode, 2, 2, 0, 1), mode.Stays)
	}
}

// TestAsk: each mode from each mode, and what there is no mode of.
func TestAsk(t *testing.T) {
	const (
		no   = iota // ErrState
		to          // the mode, with all counts 0
		same        // no effect
	)
	allowed := [4][4]int{
		safe:     {to, to, no, no},
		detumble: {to, same, to, no},
		sun:      {to, no, same, to},
		nominal:  {to, no, to, same},
	}
	for from := range byte(4) {
		for m := range byte(4) {
			for _, c := range []mode.Config{never, config(9, 0, 9, 9, 9), config(1, 5, 1, 1, 1), {}} {
				for _, a := range []mode.Auto{auto(from, 7, 6, 5, 0), auto(from, 65535, 255, 255, 255), auto(from, 0, 0, 5, 9)} {
					switch allowed[from][m] {
					case no:
						asks(t, a, c, m, a, api.ErrState)
					case to:
						asks(t, a, c, m, auto(m, 0, 0, 0, 0), api.OK)
					case same:
						asks(t, a, c, m, a, api.OK)
					}
				}
			}
		}
		for _, m := range noModes {
			for _, a := range []mode.Auto{auto(from, 0, 0, 0, 0), auto(from, 7, 6, 255, 0), auto(from, 65535, 255, 255, 255)} {
				asks(t, a, never, m, a, api.ErrArg)
				asks(t, a, hasty, m, a, api.ErrArg)
			}
		}
	}
}

// TestAskNominal: from Sun, if the sun was seen for long enough.
func TestAskNominal(t *testing.T) {
	for _, seen := range []uint8{1, 2, 7, 254, 255} {
		c := config(3, seen, 3, 1, 1)
		for _, since := range []uint16{0, 9, 65535} {
			below, at := auto(sun, since, 3, seen-1, 0), auto(sun, since, 3, seen, 0)
			asks(t, below, c, nominal, below, api.ErrState)
			asks(t, at, c, nominal, auto(nominal, 0, 0, 0, 0), api.OK)
			asks(t, auto(sun, since, 3, 0, 255), c, nominal, auto(sun, since, 3, 0, 255), api.ErrState)
			asks(t, auto(sun, since, 0, 255, 0), c, nominal, auto(nominal, 0, 0, 0, 0), api.OK)
			if seen < 255 {
				asks(t, auto(sun, since, 3, seen+1, 0), c, nominal, auto(nominal, 0, 0, 0, 0), api.OK)
			}
			// From elsewhere it isn't enough.
			for _, m := range []byte{safe, detumble} {
				asks(t, auto(m, since, 9, 255, 0), c, nominal, auto(m, since, 9, 255, 0), api.ErrState)
			}
			// In it already, whatever was seen.
			asks(t, auto(nominal, since, 9, 0, 9), c, nominal, auto(nominal, since, 9, 0, 9), api.OK)
		}
	}
	asks(t, auto(sun, 0, 0, 0, 0), config(3, 0, 3, 1, 1), nominal, auto(nominal, 0, 0, 0, 0), api.OK)
	asks(t, auto(sun, 9, 9, 0, 9), config(3, 0, 3, 1, 1), nominal, auto(nominal, 0, 0, 0, 0), api.OK)
	asks(t, auto(safe, 9, 9, 0, 9), config(3, 0, 3, 1, 1), nominal, auto(safe, 9, 9, 0, 9), api.ErrState)
}

// TestNotRight: of such an automaton no more is promised than that its calls
// end, and answer alike.
func TestNotRight(t *testing.T) {
	for _, m := range noModes {
		for _, a := range []mode.Auto{auto(m, 0, 0, 0, 0), auto(m, 65535, 255, 255, 255), auto(m, 3, 2, 1, 0)} {
			for _, c := range []mode.Config{never, hasty, {}} {
				for flags := range 8 {
					x, what := a.Step(c, flags&1 != 0, flags&2 != 0, flags&4 != 0)
					y, again := a.Step(c, flags&1 != 0, flags&2 != 0, flags&4 != 0)
					if x != y || what != again {
						t.Errorf("Step of %v: %v, %v", a, x, y)
					}
				}
				for asked := range 256 {
					x, err := a.Ask(c, byte(asked))
					y, again := a.Ask(c, byte(asked))
					if x != y || err != again {
						t.Errorf("Ask of %v: %v, %v", a, x, y)
					}
				}
			}
			if a.Right() || a.Fall() != a.Fall() {
				t.Errorf("%v is right", a)
			}
		}
	}
}

// account is a plain account of the same rules: it keeps what was in each cycle
// of this mode, and goes back over all of it each time.
type account struct {
	mode byte
	past []cycle
}

type cycle struct{ calm, seen bool }

// streak tells for how many cycles, back from the last one, this was so.
func (k *account) streak(was func(cycle) bool) int {
	n := 0
	for i := len(k.past) - 1; i >= 0 && was(k.past[i]); i-- {
		n++
	}
	return n
}

func (k *account) calm() int { return k.streak(func(x cycle) bool { return x.calm }) }
func (k *account) seen() int { return k.streak(func(x cycle) bool { return x.seen }) }
func (k *account) dark() int { return k.streak(func(x cycle) bool { return !x.seen }) }

// auto is what the account comes to.
func (k *account) auto() mode.Auto {
	return auto(k.mode, uint16(min(len(k.past), 65535)), uint8(min(k.calm(), 255)), uint8(min(k.seen(), 255)), uint8(min(k.dark(), 255)))
}

// enter begins a mode.
func (k *account) enter(m byte) { k.mode, k.past = m, nil }

// step is a Step; it returns what has happened.
func (k *account) step(c mode.Config, calm, seen, wanted bool) byte {
	if wanted && k.mode != safe {
		k.enter(safe)
		return 1
	}
	k.past = append(k.past, cycle{calm, seen})
	timeout := int(c.Timeout[k.mode])
	if k.mode == detumble && c.Calm > 0 && k.calm() >= int(c.Calm) {
		k.enter(sun)
		return 2
	}
	if k.mode == nominal && c.Lost > 0 && k.dark() >= int(c.Lost) {
		k.enter(sun)
		return 4
	}
	if timeout > 0 && len(k.past) >= timeout && (k.mode == detumble || k.mode == sun && k.seen() < int(c.Seen)) {
		k.enter(safe)
		return 3
	}
	return 0
}

// ask is an Ask.
func (k *account) ask(c mode.Config, m byte) api.Errno {
	if m > 3 {
		return api.ErrArg
	}
	if m != safe && m == k.mode {
		return api.OK
	}
	ways := [][2]byte{{safe, safe}, {detumble, safe}, {sun, safe}, {nominal, safe}, {safe, detumble}, {detumble, sun}, {nominal, sun}}
	if k.seen() >= int(c.Seen) {
		ways = append(ways, [2]byte{sun, nominal})
	}
	for _, way := range ways {
		if way == [2]byte{k.mode, m} {
			k.enter(m)
			return api.OK
		}
	}
	return api.ErrState
}

// draws gives numbers below n, the same ones in each run.
func draws(seed uint32) func(n int) int {
	return func(n int) int {
		seed = seed*1664525 + 1013904223
		return int(seed>>8) % n
	}
}

// run steps an automaton and the account together, while calm and sun come and
// go for stretches, and modes are requested now and then; it tells how often
// each thing has happened.
func run(t *testing.T, c mode.Config, seed uint32, cycles, stretch, rare int) (happened [5]int) {
	t.Helper()
	draw := draws(seed)
	a, k := mode.Auto{}, &account{}
	calm, seen := true, true
	for n := range cycles {
		if draw(stretch) == 0 {
			calm = !calm
		}
		if draw(stretch) == 0 {
			seen = !seen
		}
		if draw(rare) == 0 || a.Mode == safe && draw(4) == 0 {
			m := byte(draw(5))
			if a.Mode == safe && draw(4) > 0 {
				m = detumble
			}
			var err api.Errno
			want := k.ask(c, m)
			if a, err = a.Ask(c, m); err != want || a != k.auto() {
				t.Fatalf("cycle %d: Ask(%d): %v, %d, want %v, %d", n, m, a, err, k.auto(), want)
			}
		}
		wanted := draw(rare*4) == 0
		var what byte
		want := k.step(c, calm, seen, wanted)
		if a, what = a.Step(c, calm, seen, wanted); what != want || a != k.auto() {
			t.Fatalf("cycle %d: Step(%t, %t, %t): %v, %d, want %v, %d", n, calm, seen, wanted, a, what, k.auto(), want)
		}
		happened[what]++
	}
	return happened
}

// TestRunsAgainstPlain: long runs, under many configurations.
func TestRunsAgainstPlain(t *testing.T) {
	var happened [5]int
	draw := draws(24)
	for n := range 300 {
		c := config(uint8(draw(9)), uint8(draw(9)), uint8(draw(9)), uint16(draw(40)), uint16(draw(40)))
		got := run(t, c, uint32(n), 2000, 2+draw(30), 5+draw(30))
		for what, times := range got {
			happened[what] += times
		}
	}
	for what, times := range happened {
		if times < 100 {
			t.Errorf("%d happened %d times", what, times)
		}
	}
	// Beyond a byte's counts.
	for n := range 20 {
		run(t, config(255, 255, 255, 600, 600), uint32(n), 8000, 700, 500)
		run(t, config(uint8(250+n%6), uint8(255-n%6), 0, 0, uint16(255+n)), uint32(n), 8000, 400, 300)
	}
}

// TestLongest: one mode for longer than Since can count.
func TestLongest(t *testing.T) {
	for m := range byte(4) {
		a := auto(m, 0, 0, 0, 0)
		for n := 1; n <= 66000; n++ {
			var what byte
			a, what = a.Step(never, true, n%300 != 0, false)
			if a.Mode != m || what != mode.Stays || int(a.Since) != min(n, 65535) || int(a.Calm) != min(n, 255) || int(a.Seen) != min(n%300, 255) || (a.Dark == 1) != (n%300 == 0) {
				t.Fatalf("cycle %d: %v, %d", n, a, what)
			}
		}
	}
	// The greatest timeout is reached, by each mode that has one.
	for _, m := range []byte{detumble, sun} {
		c := config(0, 1, 0, 65535, 65535)
		a := auto(m, 0, 0, 0, 0)
		for n := 1; n <= 65535; n++ {
			var what byte
			if a, what = a.Step(c, false, false, false); (what == mode.Late) != (n == 65535) {
				t.Fatalf("cycle %d: %v, %d", n, a, what)
			}
		}
		if a != auto(safe, 0, 0, 0, 0) {
			t.Error(a)
		}
	}
}

// TestBoundHolds: whoever leaves safe mode is, behind Bound's cycles, in Sun
// with the sun seen for long enough, or in safe mode again, unless a timeout is
// 0.
func TestBoundHolds(t *testing.T) {
	draw := draws(2)
	for range 3000 {
		c := config(uint8(1+draw(9)), uint8(draw(9)), uint8(draw(9)), uint16(1+draw(40)), uint16(1+draw(40)))
		a, err := mode.Auto{}.Ask(c, detumble)
		if err != api.OK {
			t.Fatal(err)
		}
		calm, seen, done := draw(3), draw(3), false
		for range mode.Bound(c) {
			a, _ = a.Step(c, draw(3) < calm, draw(3) < seen, false)
			done = done || a.Mode == safe || a.Mode == sun && a.Seen >= c.Seen
		}
		if !done {
			t.Errorf("%v: still %v", c, a)
		}
	}
}
