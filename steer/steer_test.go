package steer_test

import (
	"math"
	"math/big"
	"slices"
	"testing"

	"aerie/api"
	"aerie/bits"
	"aerie/steer"
)

const (
	top = math.MaxInt32
	low = math.MinInt32

	topInt = math.MaxInt
	lowInt = math.MinInt
)

// numbers are where roundings and saturations turn, and some between.
var numbers = []int32{low, low + 1, -1 << 30, -65537, -1001, -1000, -7, -2, -1, 0, 1, 2, 3, 5, 1000, 1001, 46341, 1 << 30, top - 1, top}

// counts are numbers of fraction bits, also those that layer 1 takes as others.
var counts = []int{lowInt, -1 << 32, -1, 0, 1, 2, 10, 30, 31, 32, 64, 1 << 32, topInt}

// vectors have these numbers in each place.
func vectors() []api.Vec {
	var l []api.Vec
	for i, n := range numbers {
		m, k := numbers[(i+7)%len(numbers)], numbers[(i+13)%len(numbers)]
		l = append(l, api.Vec{n, n, n}, api.Vec{n, m, k}, api.Vec{k, n, m}, api.Vec{n, 0, 0}, api.Vec{0, n, 0}, api.Vec{0, 0, n}, api.Vec{n, top, low})
	}
	return l
}

// What follows works the chapter's numbers out by big ones, apart from the
// project's packages.

func wide(n int32) *big.Int { return big.NewInt(int64(n)) }

func nearest(n *big.Int) int32 {
	switch {
	case n.Cmp(big.NewInt(top)) > 0:
		return top
	case n.Cmp(big.NewInt(low)) < 0:
		return low
	}
	return int32(n.Int64())
}

// down returns n / 2^q, rounded down, with q as layer 1 takes it.
func down(n *big.Int, q int) *big.Int {
	if q < 0 {
		q = 0
	} else if q > 31 {
		q = 31
	}
	return new(big.Int).Div(n, new(big.Int).Exp(big.NewInt(2), big.NewInt(int64(q)), nil))
}

func less(a, b int32) int32 { return nearest(new(big.Int).Sub(wide(a), wide(b))) }

func scaled(a, k int32, q int) int32 {
	return nearest(down(new(big.Int).Mul(wide(a), wide(k)), q))
}

func within(n, most int32) int32 {
	switch {
	case most < 0:
		return 0
	case int64(n) > int64(most):
		return most
	case int64(n) < -int64(most):
		return -most
	}
	return n
}

// plainBdot is one component of the dipole.
func plainBdot(b, last, gain int32, q int, most int32) int32 {
	return within(less(0, scaled(less(b, last), gain, q)), most)
}

// plainSun is the torque.
func plainSun(sun, rate api.Vec, axis int, kp, kd int32, q int, most int32) api.Vec {
	var at, torque api.Vec
	switch axis {
	case 0, 1, 2:
		at[axis] = 1000
	}
	for i, jk := range [][2]int{{1, 2}, {2, 0}, {0, 1}} {
		j, k := jk[0], jk[1]
		cross := new(big.Int).Mul(wide(at[j]), wide(sun[k]))
		cross.Sub(cross, new(big.Int).Mul(wide(at[k]), wide(sun[j])))
		offset := nearest(down(cross, 10))
		torque[i] = within(less(scaled(offset, kp, q), scaled(rate[i], kd, q)), most)
	}
	return torque
}

// signs are the chapter's axes of the wheels.
func signs() [4][3]int32 {
	return [4][3]int32{{1, 1, 1}, {1, -1, -1}, {-1, 1, -1}, {-1, -1, 1}}
}

// plainShare is one wheel's command.
func plainShare(torque api.Vec, wheel int, most int32) int32 {
	sum := new(big.Int)
	for i, sign := range signs()[wheel] {
		sum.Add(sum, new(big.Int).Mul(wide(sign), wide(torque[i])))
	}
	return within(nearest(down(sum, 2)), most)
}

// plainJoined is one component of the resulting torque.
func plainJoined(cmd [4]int32, i int) int32 {
	sum := new(big.Int)
	for wheel, n := range cmd {
		sum.Add(sum, wide(nearest(new(big.Int).Mul(wide(n), wide(signs()[wheel][i])))))
	}
	return nearest(sum)
}

// TestExample: the chapter's.
func TestExample(t *testing.T) {
	if got := steer.Bdot(api.Vec{15, 25, -5}, api.Vec{5, 15, -15}, false, 1, 0, 1000); got != (api.Vec{-10, -10, -10}) {
		t.Error("Bdot", got)
	}
}

func TestAxis(t *testing.T) {
	for i, want := range []api.Vec{{1000, 0, 0}, {0, 1000, 0}, {0, 0, 1000}} {
		if got := steer.Axis(i); got != want {
			t.Errorf("Axis(%d) = %v", i, got)
		}
	}
	for _, i := range []int{lowInt, lowInt + 1, -1 << 32, -3, -2, -1, 3, 4, 5, 256, 1 << 32, 1<<32 + 1, topInt - 1, topInt} {
		if got := steer.Axis(i); got != (api.Vec{}) {
			t.Errorf("Axis(%d) = %v", i, got)
		}
	}
}

func TestBdot(t *testing.T) {
	for _, x := range []struct {
		b, last api.Vec
		gain    int32
		q       int
		most    int32
		want    api.Vec
	}{
		// A field that does not change, and one that does.
		{api.Vec{7, -8, 9}, api.Vec{7, -8, 9}, 4, 0, 1000, api.Vec{}}, {api.Vec{low, top, 0}, api.Vec{low, top, 0}, top, 0, top, api.Vec{}},
		{api.Vec{11, 20, 30}, api.Vec{10, 22, 27}, 1, 0, 1000, api.Vec{-1, 2, -3}}, {api.Vec{11, 20, 30}, api.Vec{10, 22, 27}, -1, 0, 1000, api.Vec{1, -2, 3}},
		{api.Vec{11, 20, 30}, api.Vec{10, 22, 27}, 4, 0, 1000, api.Vec{-4, 8, -12}}, {api.Vec{11, 20, 30}, api.Vec{10, 22, 27}, 0, 0, 1000, api.Vec{}},
		// Rounded down before the sign is turned.
		{api.Vec{3, -3, 1}, api.Vec{}, 1, 1, 1000, api.Vec{-1, 2, 0}}, {api.Vec{1, -1, 5}, api.Vec{}, 1, 31, 1000, api.Vec{0, 1, 0}},
		{api.Vec{1, -1, 5}, api.Vec{}, 1, 99, 1000, api.Vec{0, 1, 0}}, {api.Vec{3, -3, 1}, api.Vec{}, 1, -1, 1000, api.Vec{-3, 3, -1}}, {api.Vec{3, -3, 1}, api.Vec{}, 1, lowInt, 1000, api.Vec{-3, 3, -1}},
		// Limited.
		{api.Vec{1001, -1001, 1000}, api.Vec{}, 1, 0, 1000, api.Vec{-1000, 1000, -1000}}, {api.Vec{251, -250, 249}, api.Vec{}, 4, 0, 1000, api.Vec{-1000, 1000, -996}},
		{api.Vec{3, -3, 1}, api.Vec{}, 1, 0, 0, api.Vec{}}, {api.Vec{3, -3, 1}, api.Vec{}, 1, 0, -1, api.Vec{}}, {api.Vec{3, -3, 1}, api.Vec{}, 1, 0, low, api.Vec{}}, {api.Vec{3, -3, 1}, api.Vec{}, 1, 0, 2, api.Vec{-2, 2, -1}},
		// From one end to the other: the change is saturated before it is scaled.
		{api.Vec{top, low, 0}, api.Vec{low, top, 0}, 1, 0, top, api.Vec{-top, top, 0}}, {api.Vec{top, low, 0}, api.Vec{low, top, 0}, 1, 1, top, api.Vec{-(1<<30 - 1), 1 << 30, 0}},
		{api.Vec{top, low, 0}, api.Vec{low, top, 0}, -1, 0, top, api.Vec{top, -top, 0}}, {api.Vec{top, low, 1}, api.Vec{low, top, 0}, top, 31, top, api.Vec{-(top - 1), top, 0}},
		{api.Vec{top, low, 1}, api.Vec{low, top, 0}, low, 31, top, api.Vec{top, low + 1, 1}}, {api.Vec{1, -1, 2}, api.Vec{}, low, 0, top, api.Vec{top, -top, top}}, {api.Vec{1, -1, 2}, api.Vec{}, top, 0, top, api.Vec{-top, top, -top}},
	} {
		if got := steer.Bdot(x.b, x.last, false, x.gain, x.q, x.most); got != x.want {
			t.Errorf("Bdot(%v, %v, false, %d, %d, %d) = %v, want %v", x.b, x.last, x.gain, x.q, x.most, got, x.want)
		}
		if got := steer.Bdot(x.b, x.last, true, x.gain, x.q, x.most); got != (api.Vec{}) {
			t.Errorf("Bdot(%v, %v, true, ..) = %v", x.b, x.last, got)
		}
	}
}

func TestBdotAgainstPlain(t *testing.T) {
	l := vectors()
	for i, b := range l {
		for j, last := range l {
			q := counts[(i+j)%len(counts)]
			for n, gain := range numbers {
				most := numbers[(n+i+3*j)%len(numbers)]
				got := steer.Bdot(b, last, false, gain, q, most)
				for k := range 3 {
					if want := plainBdot(b[k], last[k], gain, q, most); got[k] != want {
						t.Fatalf("Bdot(%v, %v, false, %d, %d, %d)[%d] = %d, want %d", b, last, gain, q, most, k, got[k], want)
					}
				}
				if steer.Bdot(b, last, true, gain, q, most) != (api.Vec{}) {
					t.Fatalf("Bdot(%v, %v, true, %d, %d, %d)", b, last, gain, q, most)
				}
			}
		}
	}
}

func TestSun(t *testing.T) {
	still := api.Vec{}
	for _, x := range []struct {
		sun, rate api.Vec
		axis      int
		kp, kd    int32
		q         int
		most      int32
		want      api.Vec
	}{
		// To the sun, against it, across it: 1000 * 1000 / 1024 is 976.6.
		{api.Vec{1000, 0, 0}, still, 0, 2, 4, 0, 1000, still}, {api.Vec{-1000, 0, 0}, still, 0, 2, 4, 0, 1000, still},
		{api.Vec{0, 0, 5}, still, 2, 2, 4, 0, 1000, still}, {api.Vec{0, low, 0}, still, 1, 2, 4, 0, 1000, still},
		{api.Vec{0, 1000, 0}, still, 0, 1, 4, 0, 2000, api.Vec{0, 0, 976}}, {api.Vec{0, 0, 1000}, still, 0, 1, 4, 0, 2000, api.Vec{0, -977, 0}},
		{api.Vec{0, 0, 1000}, still, 1, 2, 4, 0, 2000, api.Vec{1952, 0, 0}}, {api.Vec{1000, 0, 0}, still, 1, 2, 4, 0, 2000, api.Vec{0, 0, -1954}},
		{api.Vec{1000, 0, 0}, still, 2, 2, 4, 0, 2000, api.Vec{0, 1952, 0}}, {api.Vec{0, 1000, 0}, still, 2, 2, 4, 0, 2000, api.Vec{-1954, 0, 0}},
		{api.Vec{0, 1024, -1024}, still, 0, 3, 4, 1, 9999, api.Vec{0, 1500, 1500}}, {api.Vec{0, -1024, 1024}, still, 0, 3, 4, 1, 9999, api.Vec{0, -1500, -1500}},
		// With a rate, also where there is nothing else.
		{api.Vec{0, 1000, 0}, api.Vec{10, -20, 30}, 0, 2, 4, 0, 2000, api.Vec{-40, 80, 1832}}, {api.Vec{1000, 0, 0}, api.Vec{10, -20, 30}, 0, 2, 4, 0, 2000, api.Vec{-40, 80, -120}},
		{api.Vec{0, 1000, 0}, api.Vec{10, -20, 30}, 0, 0, 4, 0, 2000, api.Vec{-40, 80, -120}}, {api.Vec{0, 1000, 0}, api.Vec{10, -20, 30}, 0, 2, 0, 0, 2000, api.Vec{0, 0, 1952}},
		{api.Vec{0, 1000, 0}, api.Vec{10, -20, 30}, 0, 0, 0, 0, 2000, still}, {api.Vec{0, 1000, 0}, api.Vec{10, -20, 30}, 0, -1, -1, 0, 2000, api.Vec{10, -20, -946}},
		// Each of both rounded down by itself.
		{still, api.Vec{3, -3, 1}, 0, 1, 1, 1, 1000, api.Vec{-1, 2, 0}}, {api.Vec{0, 0, 2}, api.Vec{0, 1, 0}, 0, 1, 1, 1, 1000, api.Vec{0, -1, 0}},
		// An axis that there isn't: the rate alone.
		{api.Vec{5000, 6000, 7000}, api.Vec{1, -2, 3}, 3, 2, 4, 0, 1000, api.Vec{-4, 8, -12}}, {api.Vec{5000, 6000, 7000}, api.Vec{1, -2, 3}, -1, 2, 4, 0, 1000, api.Vec{-4, 8, -12}},
		{api.Vec{5000, 6000, 7000}, still, topInt, 2, 4, 0, 1000, still}, {api.Vec{5000, 6000, 7000}, still, lowInt, 2, 4, 0, 1000, still},
		// Limited.
		{api.Vec{0, 1000, 1000}, still, 0, 2, 4, 0, 1000, api.Vec{0, -1000, 1000}}, {still, api.Vec{250, -251, 249}, 0, 2, 4, 0, 1000, api.Vec{-1000, 1000, -996}},
		{api.Vec{0, 1000, 0}, api.Vec{1, 1, 1}, 0, 2, 4, 0, 0, still}, {api.Vec{0, 1000, 0}, api.Vec{1, 1, 1}, 0, 2, 4, 0, -1, still}, {api.Vec{0, 1000, 0}, api.Vec{1, 1, 1}, 0, 2, 4, 0, low, still},
		// At the ends of 32 bits: 2^31 * 1000 / 1024 is 2097152000.
		{api.Vec{0, low, low}, still, 0, 1, 0, 0, top, api.Vec{0, 2097152000, -2097152000}}, {api.Vec{0, top, top}, still, 0, 1, 0, 0, top, api.Vec{0, -2097152000, 2097151999}},
		{api.Vec{0, low, top}, still, 0, 2, 0, 0, top, api.Vec{0, -top, -top}}, {still, api.Vec{low, top, 1}, 0, 0, 1, 0, top, api.Vec{top, -top, -1}},
		{still, api.Vec{low, top, 1}, 0, 0, -1, 0, top, api.Vec{-top, top, 1}}, {still, api.Vec{low, top, 1}, 0, 0, low, 31, top, api.Vec{-top, top, 1}},
		// Both saturated before one is taken from the other.
		{api.Vec{0, top, 0}, api.Vec{0, 0, top}, 0, 9, 9, 0, top, still}, {api.Vec{0, top, 0}, api.Vec{0, 0, low}, 0, 9, 9, 0, top, api.Vec{0, 0, top}}, {api.Vec{0, low, 0}, api.Vec{0, 0, low}, 0, 9, 5, 0, top, still},
	} {
		if got := steer.Sun(x.sun, x.rate, x.axis, x.kp, x.kd, x.q, x.most); got != x.want {
			t.Errorf("Sun(%v, %v, %d, %d, %d, %d, %d) = %v, want %v", x.sun, x.rate, x.axis, x.kp, x.kd, x.q, x.most, got, x.want)
		}
	}
}

func TestSunAgainstPlain(t *testing.T) {
	l := vectors()
	axes := []int{0, 1, 2, -1, 3, lowInt, topInt}
	for i, sun := range l {
		for j, rate := range l {
			q := counts[(i+j)%len(counts)]
			for n, axis := range axes {
				kp, kd, most := numbers[(i+n)%len(numbers)], numbers[(j+3*n)%len(numbers)], numbers[(2*i+j+n)%len(numbers)]
				for _, most := range []int32{most, top} {
					want := plainSun(sun, rate, axis, kp, kd, q, most)
					if got := steer.Sun(sun, rate, axis, kp, kd, q, most); got != want {
						t.Fatalf("Sun(%v, %v, %d, %d, %d, %d, %d) = %v, want %v", sun, rate, axis, kp, kd, q, most, got, want)
					}
				}
			}
		}
	}
}

func TestPulses(t *testing.T) {
	for _, x := range []struct {
		torque api.Vec
		dead   int32
		want   [3]int
	}{
		{api.Vec{}, 0, [3]int{}}, {api.Vec{1, -1, 0}, 0, [3]int{1, -1, 0}}, {api.Vec{5, -6, 7}, 4, [3]int{1, -1, 1}},
		// At the component's own size, and beside it.
		{api.Vec{5, -5, 0}, 5, [3]int{}}, {api.Vec{6, -6, 5}, 5, [3]int{1, -1, 0}}, {api.Vec{-4, 4, 6}, 5, [3]int{0, 0, 1}}, {api.Vec{5, -5, 4}, 4, [3]int{1, -1, 0}},
		// A negative dead counts as 0.
		{api.Vec{1, -1, 0}, -1, [3]int{1, -1, 0}}, {api.Vec{0, 3, -3}, -9, [3]int{0, 1, -1}}, {api.Vec{0, 0, 0}, low, [3]int{}}, {api.Vec{low, 0, top}, low, [3]int{-1, 0, 1}},
		{api.Vec{low, top, low + 1}, top, [3]int{-1, 0, 0}}, {api.Vec{low, top, -top}, top - 1, [3]int{-1, 1, -1}}, {api.Vec{low, top, 0}, 0, [3]int{-1, 1, 0}},
	} {
		if got := steer.Pulses(x.torque, x.dead); got != x.want {
			t.Errorf("Pulses(%v, %d) = %v, want %v", x.torque, x.dead, got, x.want)
		}
	}
	for _, torque := range vectors() {
		for _, dead := range numbers {
			var want [3]int
			for i, n := range torque {
				bound := max(int64(dead), 0)
				if int64(n) > bound {
					want[i] = 1
				} else if int64(n) < -bound {
					want[i] = -1
				}
			}
			if got := steer.Pulses(torque, dead); got != want {
				t.Errorf("Pulses(%v, %d) = %v, want %v", torque, dead, got, want)
			}
		}
	}
}

func TestCalm(t *testing.T) {
	for _, x := range []struct {
		rate api.Vec
		most int32
		want bool
	}{
		{api.Vec{}, 0, true}, {api.Vec{}, -1, false}, {api.Vec{}, low, false}, {api.Vec{1, 0, 0}, 0, false}, {api.Vec{0, 0, -1}, 0, false},
		// Just at the bound, one beside it; the greatest in each place.
		{api.Vec{100, 0, 0}, 100, true}, {api.Vec{0, 101, 0}, 100, false}, {api.Vec{0, 0, -100}, 100, true}, {api.Vec{-101, 0, 0}, 100, false}, {api.Vec{3, -100, 99}, 100, true}, {api.Vec{3, 4, -101}, 100, false},
		// The greatest component counts, not the length.
		{api.Vec{100, 100, -100}, 100, true},
		// The least number's Abs is saturated.
		{api.Vec{low, 0, 0}, top, true}, {api.Vec{low, low, low}, top, true}, {api.Vec{0, low, 0}, top - 1, false}, {api.Vec{0, 0, low + 1}, top, true}, {api.Vec{0, 0, low + 1}, top - 1, false}, {api.Vec{0, 0, low}, low, false},
	} {
		if got := steer.Calm(x.rate, x.most); got != x.want {
			t.Errorf("Calm(%v, %d) = %t", x.rate, x.most, got)
		}
	}
	for _, rate := range vectors() {
		norm := int64(0)
		for _, n := range rate {
			norm = max(norm, min(max(int64(n), -int64(n)), top))
		}
		for _, most := range append([]int32{int32(norm), int32(norm - 1)}, numbers...) {
			if got := steer.Calm(rate, most); got != (norm <= int64(most)) {
				t.Errorf("Calm(%v, %d) = %t", rate, most, got)
			}
		}
	}
}

func TestSeen(t *testing.T) {
	for _, x := range []struct {
		sun   api.Vec
		least int32
		want  bool
	}{
		{api.Vec{}, 0, true}, {api.Vec{}, 1, false}, {api.Vec{}, -1, true}, {api.Vec{}, low, true}, {api.Vec{1, 2, 3}, low, true},
		// Just at the bound, one beside it.
		{api.Vec{300, 400, 0}, 500, true}, {api.Vec{300, 400, 0}, 501, false}, {api.Vec{300, -399, 0}, 500, false}, {api.Vec{0, 0, -500}, 500, true}, {api.Vec{-499, 0, 0}, 500, false}, {api.Vec{-3, 4, 12}, 13, true}, {api.Vec{-3, 4, 12}, 14, false},
		// Rounded down.
		{api.Vec{1, 1, 1}, 1, true}, {api.Vec{1, 1, 1}, 2, false}, {api.Vec{2, 2, 2}, 3, true}, {api.Vec{2, 2, 2}, 4, false},
		// The length counts, not the greatest component; it is saturated.
		{api.Vec{400, 400, 0}, 500, true}, {api.Vec{low, 0, 0}, top, true}, {api.Vec{low, low, low}, top, true}, {api.Vec{top, 0, 0}, top, true}, {api.Vec{top - 1, 0, 0}, top, false}, {api.Vec{0, low + 2, 0}, top, false}, {api.Vec{top, top, top}, top, true},
	} {
		if got := steer.Seen(x.sun, x.least); got != x.want {
			t.Errorf("Seen(%v, %d) = %t", x.sun, x.least, got)
		}
	}
	for _, sun := range vectors() {
		squares := new(big.Int)
		for _, n := range sun {
			squares.Add(squares, new(big.Int).Mul(wide(n), wide(n)))
		}
		size := nearest(squares.Sqrt(squares))
		for _, least := range append([]int32{size, size - 1, min(size, top-1) + 1}, numbers...) {
			if got := steer.Seen(sun, least); got != (size >= least) {
				t.Errorf("Seen(%v, %d) = %t", sun, least, got)
			}
		}
	}
}

func TestShare(t *testing.T) {
	all := bits.Of(0, 1, 2, 3)
	for _, x := range []struct {
		torque api.Vec
		wheels bits.Set
		most   int32
		want   [4]int32
	}{
		{api.Vec{}, all, 1000, [4]int32{}}, {api.Vec{4, 0, 0}, all, 1000, [4]int32{1, 1, -1, -1}}, {api.Vec{0, 4, 0}, all, 1000, [4]int32{1, -1, 1, -1}}, {api.Vec{0, 0, 4}, all, 1000, [4]int32{1, -1, -1, 1}},
		{api.Vec{4, 8, 12}, all, 1000, [4]int32{6, -4, -2, 0}}, {api.Vec{-4, 8, 16}, all, 1000, [4]int32{5, -7, -1, 3}},
		// One, some, none; wheels that aren't the four.
		{api.Vec{4, 8, 12}, bits.Of(0), 1000, [4]int32{6, 0, 0, 0}}, {api.Vec{4, 8, 12}, bits.Of(1), 1000, [4]int32{0, -4, 0, 0}}, {api.Vec{4, 8, 12}, bits.Of(2), 1000, [4]int32{0, 0, -2, 0}}, {api.Vec{4, 8, 13}, bits.Of(3), 1000, [4]int32{}}, {api.Vec{4, 8, 16}, bits.Of(3), 1000, [4]int32{0, 0, 0, 1}},
		{api.Vec{4, 8, 12}, bits.Of(0, 1, 3), 1000, [4]int32{6, -4, 0, 0}}, {api.Vec{4, 8, 12}, 0, 1000, [4]int32{}}, {api.Vec{4, 8, 12}, 0xfff0, 1000, [4]int32{}}, {api.Vec{4, 8, 12}, 0xfff5, 1000, [4]int32{6, 0, -2, 0}}, {api.Vec{4, 8, 12}, 0xffff, 1000, [4]int32{6, -4, -2, 0}},
		// Sums that 4 doesn't divide are rounded down.
		{api.Vec{1, 0, 0}, all, 1000, [4]int32{0, 0, -1, -1}}, {api.Vec{-1, 0, 0}, all, 1000, [4]int32{-1, -1, 0, 0}}, {api.Vec{1, 2, 3}, all, 1000, [4]int32{1, -1, -1, 0}}, {api.Vec{7, 0, 0}, all, 1000, [4]int32{1, 1, -2, -2}}, {api.Vec{5, 0, 0}, all, 1000, [4]int32{1, 1, -2, -2}}, {api.Vec{6, 0, 0}, all, 1000, [4]int32{1, 1, -2, -2}},
		// Limited, behind the rounding.
		{api.Vec{4000, 8000, 12000}, all, 1000, [4]int32{1000, -1000, -1000, 0}}, {api.Vec{400, 800, 1200}, all, 300, [4]int32{300, -300, -200, 0}}, {api.Vec{7, 0, 0}, all, 1, [4]int32{1, 1, -1, -1}}, {api.Vec{4, 0, 0}, all, 1, [4]int32{1, 1, -1, -1}},
		{api.Vec{4, 8, 12}, all, 0, [4]int32{}}, {api.Vec{4, 8, 12}, all, -1, [4]int32{}}, {api.Vec{4, 8, 12}, all, -5, [4]int32{}}, {api.Vec{low, low, low}, all, low, [4]int32{}}, {api.Vec{top, top, top}, all, -top, [4]int32{}},
		// At the ends of 32 bits: 3 * 2^31 / 4 is 1610612736.
		{api.Vec{top, top, top}, all, top, [4]int32{1610612735, -(1 << 29), -(1 << 29), -(1 << 29)}}, {api.Vec{low, low, low}, all, top, [4]int32{-1610612736, 1 << 29, 1 << 29, 1 << 29}},
		{api.Vec{top, low, low}, all, top, [4]int32{-(1 << 29) - 1, 1610612735, -(1 << 29), -(1 << 29)}}, {api.Vec{low, top, top}, all, top, [4]int32{1<<29 - 1, -1610612736, 1 << 29, 1 << 29}}, {api.Vec{low, top, low}, all, 7, [4]int32{-7, -7, 7, -7}},
	} {
		if got := steer.Share(x.torque, x.wheels, x.most); got != x.want {
			t.Errorf("Share(%v, %v, %d) = %v, want %v", x.torque, x.wheels.Text(), x.most, got, x.want)
		}
	}
}

func TestShareAgainstPlain(t *testing.T) {
	l := vectors()
	for x := int32(-5); x <= 5; x++ {
		for y := int32(-5); y <= 5; y++ {
			for z := int32(-5); z <= 5; z++ {
				l = append(l, api.Vec{x, y, z})
			}
		}
	}
	for i, torque := range l {
		for wheels := range 16 {
			set := bits.Set(wheels)
			for j, most := range numbers {
				if (i+j+wheels)%2 == 1 {
					set |= bits.Set((i+1)*(j+3)) << 4
				}
				var want [4]int32
				for wheel := range 4 {
					if wheels>>wheel&1 == 1 {
						want[wheel] = plainShare(torque, wheel, most)
					}
				}
				if got := steer.Share(torque, set, most); got != want {
					t.Fatalf("Share(%v, %v, %d) = %v, want %v", torque, set.Text(), most, got, want)
				}
			}
		}
	}
}

func TestJoined(t *testing.T) {
	for _, x := range []struct {
		cmd  [4]int32
		want api.Vec
	}{
		{[4]int32{}, api.Vec{}}, {[4]int32{5, 0, 0, 0}, api.Vec{5, 5, 5}}, {[4]int32{0, 5, 0, 0}, api.Vec{5, -5, -5}}, {[4]int32{0, 0, 5, 0}, api.Vec{-5, 5, -5}}, {[4]int32{0, 0, 0, 5}, api.Vec{-5, -5, 5}},
		{[4]int32{7, 7, 7, 7}, api.Vec{}}, {[4]int32{1, 2, 3, 4}, api.Vec{-4, -2, 0}}, {[4]int32{6, -4, -2, 0}, api.Vec{4, 8, 12}}, {[4]int32{-1, 10, 100, 1000}, api.Vec{-1091, -911, 889}},
		// One wheel at an end: its opposite is saturated.
		{[4]int32{top, 0, 0, 0}, api.Vec{top, top, top}}, {[4]int32{0, top, 0, 0}, api.Vec{top, -top, -top}}, {[4]int32{low, 0, 0, 0}, api.Vec{low, low, low}},
		{[4]int32{0, low, 0, 0}, api.Vec{low, top, top}}, {[4]int32{0, 0, low, 0}, api.Vec{top, low, top}}, {[4]int32{0, 0, 0, low}, api.Vec{top, top, low}},
		// Several: the sums are saturated.
		{[4]int32{top, top, 0, 0}, api.Vec{top, 0, 0}}, {[4]int32{low, low, 0, 0}, api.Vec{low, -1, -1}}, {[4]int32{0, 0, top, top}, api.Vec{low, 0, 0}}, {[4]int32{0, 0, low, low}, api.Vec{top, -1, -1}},
		{[4]int32{top, 0, top, 0}, api.Vec{0, top, 0}}, {[4]int32{top, 0, 0, 1}, api.Vec{top - 1, top - 1, top}}, {[4]int32{low, 0, 0, low}, api.Vec{-1, -1, low}}, {[4]int32{top, 1, 0, 0}, api.Vec{top, top - 1, top - 1}}, {[4]int32{low, 0, 1, 0}, api.Vec{low, low + 1, low}},
		// What each wheel adds is saturated first: 2^31 by itself would give a 0
		// in the end, and not -1.
		{[4]int32{low, low, top, top}, api.Vec{low, -1, -1}}, {[4]int32{low, low, low, low}, api.Vec{-2, -2, -2}}, {[4]int32{top, low, low, low}, api.Vec{top, top, top}},
		// The sum is exact, and saturated once: nothing is lost on the way.
		{[4]int32{top, top, top, top}, api.Vec{}}, {[4]int32{top, 9, top, 0}, api.Vec{9, top, -9}}, {[4]int32{top, 9, 9, top}, api.Vec{0, 0, top}}, {[4]int32{-top, -top, -top, -5}, api.Vec{-top + 5, -top + 5, top - 5}},
	} {
		if got := steer.Joined(x.cmd); got != x.want {
			t.Errorf("Joined(%v) = %v, want %v", x.cmd, got, x.want)
		}
	}
}

func TestJoinedAgainstPlain(t *testing.T) {
	few := []int32{low, low + 1, -1 << 30, -7, 0, 1, 1 << 30, top - 1, top}
	for _, a := range few {
		for _, b := range few {
			for _, c := range few {
				for _, d := range few {
					cmd := [4]int32{a, b, c, d}
					got := steer.Joined(cmd)
					for i := range 3 {
						if want := plainJoined(cmd, i); got[i] != want {
							t.Fatalf("Joined(%v)[%d] = %d, want %d", cmd, i, got[i], want)
						}
					}
				}
			}
		}
	}
}

// TestSharedAndJoined: all wheels together produce the torque that was shared
// among them, but for what the roundings take.
func TestSharedAndJoined(t *testing.T) {
	all := bits.Of(0, 1, 2, 3)
	for x := int32(-9); x <= 9; x++ {
		for y := int32(-9); y <= 9; y++ {
			for z := int32(-9); z <= 9; z++ {
				torque := api.Vec{x, y, z}
				got := steer.Joined(steer.Share(torque, all, top))
				for i, n := range got {
					if off := n - torque[i]; off < -1 || off > 1 {
						t.Fatalf("%v became %v", torque, got)
					}
				}
				fourfold := api.Vec{4 * x, 4 * y, 4 * z}
				if got := steer.Joined(steer.Share(fourfold, all, top)); got != fourfold {
					t.Fatalf("%v became %v", fourfold, got)
				}
			}
		}
	}
}

// TestDirections: a Bdot is against the field's change, and a Sun turns the
// axis nearer to the sun.
func TestDirections(t *testing.T) {
	for i := range 3 {
		for _, n := range []int32{-900, -5, 5, 900} {
			var field api.Vec
			field[i] = n
			if got := steer.Bdot(field, api.Vec{}, false, 4, 0, 1000)[i]; got > 0 == (n > 0) || got == 0 {
				t.Errorf("Bdot of a change by %v has %d", field, got)
			}
		}
		for j := range 3 {
			if j == i {
				continue
			}
			// Turning the i-th axis about the torque moves it along torque x axis.
			sun := steer.Axis(j)
			torque := steer.Sun(sun, api.Vec{}, i, 2, 4, 0, 1000)
			axis := steer.Axis(i)
			a, b := (j+1)%3, (j+2)%3
			if moves := int64(torque[a])*int64(axis[b]) - int64(torque[b])*int64(axis[a]); moves <= 0 {
				t.Errorf("Sun along %v turns axis %d by %v", sun, i, torque)
			}
		}
	}
}

// TestEndsAndAnswersAlike is for P1 and P2: each call comes back, the second
// time with what the first one gave, whatever was asked between.
func TestEndsAndAnswersAlike(t *testing.T) {
	run := func() []int32 {
		var got []int32
		add := func(l ...api.Vec) {
			for _, v := range l {
				got = append(got, v[:]...)
			}
		}
		for i, a := range vectors() {
			for j, b := range vectors() {
				n, m, q := numbers[i%len(numbers)], numbers[j%len(numbers)], counts[(i+j)%len(counts)]
				cmd := steer.Share(a, bits.Set(i*j), m)
				got = append(got, cmd[:]...)
				add(steer.Bdot(a, b, i == j, n, q, m), steer.Sun(a, b, i-j, n, m, q, top), steer.Joined([4]int32{a[0], b[1], n, m}), steer.Axis(i-j))
				if steer.Calm(a, n) || steer.Seen(b, m) || steer.Pulses(a, n) == steer.Pulses(b, n) {
					got = append(got, int32(len(got)))
				}
			}
		}
		return got
	}
	if first := run(); !slices.Equal(first, run()) {
		t.Error("the same calls had different answers")
	}
}
