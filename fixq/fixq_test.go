package fixq_test

import (
	"math"
	"math/big"
	"slices"
	"testing"

	"aerie/fixq"
)

const (
	top = math.MaxInt32
	low = math.MinInt32

	top64 = math.MaxInt64
	low64 = math.MinInt64
)

// edges are the 32-bit numbers at which roundings and saturations turn.
var edges = []int32{
	low, low + 1, low + 2, -1 << 30, -1<<30 - 1, -65537, -65536, -65535, -1000, -8, -7, -5, -3, -2, -1,
	0, 1, 2, 3, 5, 7, 8, 1000, 46340, 46341, 65535, 65536, 65537, 1<<30 - 1, 1 << 30, top - 1, top,
}

// edges64 are those of 64 bits.
var edges64 = []int64{
	low64, low64 + 1, -1 << 62, -1<<62 - 1, -1 << 32, low - 1, low, low + 1, -5, -1,
	0, 1, 5, top - 1, top, top + 1, 1 << 32, 1<<62 - 1, 1 << 62, top64 - 1, top64,
}

// counts are numbers of bits on both sides of what is told apart.
var counts = []int{
	math.MinInt, low, -1 << 32, -64, -33, -32, -31, -30, -8, -2, -1,
	0, 1, 2, 8, 16, 30, 31, 32, 33, 63, 64, 1 << 32, 1<<32 + 5, top, math.MaxInt,
}

func wide(n int64) *big.Int { return big.NewInt(n) }

// nearest is n saturated, worked out by big numbers.
func nearest(n *big.Int) int32 {
	if n.Cmp(wide(top)) > 0 {
		return top
	}
	if n.Cmp(wide(low)) < 0 {
		return low
	}
	return int32(n.Int64())
}

// timesPower is n 2^by, rounded down.
func timesPower(n *big.Int, by int) *big.Int {
	if by < 0 {
		return new(big.Int).Rsh(n, uint(-by))
	}
	return new(big.Int).Lsh(n, uint(by))
}

func within(n, least, most int) int {
	if n < least {
		return least
	}
	if n > most {
		return most
	}
	return n
}

func TestSat(t *testing.T) {
	for _, x := range []struct {
		n    int64
		want int32
	}{
		{0, 0}, {7, 7}, {-7, -7},
		{top, top}, {top + 1, top}, {1 << 40, top}, {top64, top},
		{low, low}, {low - 1, low}, {-1 << 40, low}, {low64, low},
		{1 << 32, top}, {-1 << 32, low},
	} {
		if got := fixq.Sat(x.n); got != x.want {
			t.Errorf("Sat(%d) = %d, want %d", x.n, got, x.want)
		}
	}
	for _, n := range edges64 {
		if got, want := fixq.Sat(n), nearest(wide(n)); got != want {
			t.Errorf("Sat(%d) = %d, want %d", n, got, want)
		}
	}
}

func TestAdd(t *testing.T) {
	for _, x := range []struct {
		l    []int32
		want int32
	}{
		{nil, 0}, {[]int32{}, 0}, {[]int32{9}, 9}, {[]int32{low}, low},
		{[]int32{1, 2, 3, 4}, 10}, {[]int32{5, -9}, -4},
		{[]int32{top, 1, -5}, top - 4}, {[]int32{low, -1, 5}, low + 4},
		{[]int32{top, top, top, low, low}, top - 2},
		{[]int32{top, 1}, top}, {[]int32{top, top, top}, top},
		{[]int32{low, -1}, low}, {[]int32{low, low, low, low}, low},
	} {
		if got := fixq.Add(x.l...); got != x.want {
			t.Errorf("Add(%v) = %d, want %d", x.l, got, x.want)
		}
	}
}

func TestAddOfManyIsExact(t *testing.T) {
	many := slices.Repeat([]int32{top}, 100000)
	many = append(many, slices.Repeat([]int32{-top}, 100000)...)
	if got := fixq.Add(append(many, 17)...); got != 17 {
		t.Errorf("got %d, want 17", got)
	}
}

func TestSubNegAbs(t *testing.T) {
	for _, a := range edges {
		if got, want := fixq.Neg(a), nearest(wide(-int64(a))); got != want {
			t.Errorf("Neg(%d) = %d, want %d", a, got, want)
		}
		if got, want := fixq.Abs(a), nearest(new(big.Int).Abs(wide(int64(a)))); got != want {
			t.Errorf("Abs(%d) = %d, want %d", a, got, want)
		}
		for _, b := range edges {
			if got, want := fixq.Sub(a, b), nearest(wide(int64(a)-int64(b))); got != want {
				t.Errorf("Sub(%d, %d) = %d, want %d", a, b, got, want)
			}
		}
	}
	if fixq.Sub(low, 1) != low || fixq.Sub(top, -1) != top || fixq.Sub(0, low) != top || fixq.Sub(9, 4) != 5 {
		t.Error("Sub at the ends")
	}
	if fixq.Neg(low) != top || fixq.Neg(top) != -top || fixq.Abs(low) != top || fixq.Abs(-6) != 6 || fixq.Abs(6) != 6 {
		t.Error("Neg, Abs at the ends")
	}
}

func TestMul(t *testing.T) {
	for _, x := range []struct {
		a, b int32
		q    int
		want int32
	}{
		{6, 7, 0, 42}, {3, 1, 1, 1}, {3, -1, 1, -2}, {-3, 1, 1, -2}, {-4, 1, 1, -2}, {-1, 1, 31, -1},
		{65536, 65536, 16, 65536}, {65536, 65536, 0, top}, {65536, -65536, 0, low},
		{low, low, 31, top}, {low, low, 30, top}, {low, top, 31, -top}, {low, low, 0, top},
		{6, 7, -1, 42}, {6, 7, math.MinInt, 42},
		{low, low, 32, top}, {low, 8, 99, -8}, {1 << 30, 6, math.MaxInt, 3},
	} {
		if got := fixq.Mul(x.a, x.b, x.q); got != x.want {
			t.Errorf("Mul(%d, %d, %d) = %d, want %d", x.a, x.b, x.q, got, x.want)
		}
	}
}

func TestMulAtAllEdges(t *testing.T) {
	for _, a := range edges {
		for _, b := range edges {
			for _, q := range counts {
				product := new(big.Int).Mul(wide(int64(a)), wide(int64(b)))
				want := nearest(timesPower(product, -within(q, 0, 31)))
				if got := fixq.Mul(a, b, q); got != want {
					t.Fatalf("Mul(%d, %d, %d) = %d, want %d", a, b, q, got, want)
				}
			}
		}
	}
}

func TestDiv(t *testing.T) {
	for _, x := range []struct {
		a, b int32
		q    int
		want int32
	}{
		{42, 6, 0, 7}, {7, 2, 0, 3}, {-7, 2, 0, -3}, {7, -2, 0, -3}, {-7, -2, 0, 3},
		{1, 3, 8, 85}, {-1, 3, 8, -85},
		{5, 0, 3, top}, {-5, 0, 3, low}, {0, 0, 3, 0}, {1, 0, 0, top}, {-1, 0, 0, low},
		{low, 0, 31, low}, {top, 0, 31, top}, {0, 0, 31, 0},
		{low, -1, 0, top}, {low, -1, 31, top}, {low, 1, 31, low}, {top, 1, 1, top}, {low, 1, 1, low},
		{7, 2, -1, 3}, {7, 2, math.MinInt, 3},
		{3, top, 32, 3}, {3, top, math.MaxInt, 3}, {1, 2, 99, 1 << 30},
	} {
		if got := fixq.Div(x.a, x.b, x.q); got != x.want {
			t.Errorf("Div(%d, %d, %d) = %d, want %d", x.a, x.b, x.q, got, x.want)
		}
	}
}

func TestDivAtAllEdges(t *testing.T) {
	for _, a := range edges {
		for _, b := range edges {
			if b == 0 {
				continue
			}
			for _, q := range counts {
				fraction := timesPower(wide(int64(a)), within(q, 0, 31))
				want := nearest(fraction.Quo(fraction, wide(int64(b))))
				if got := fixq.Div(a, b, q); got != want {
					t.Fatalf("Div(%d, %d, %d) = %d, want %d", a, b, q, got, want)
				}
			}
		}
	}
}

func TestClamp(t *testing.T) {
	for _, x := range []struct{ a, low, high, want int32 }{
		{3, -5, 5, 3}, {9, -5, 5, 5}, {-9, -5, 5, -5}, {5, -5, 5, 5}, {-5, -5, 5, -5},
		{top, low, top, top}, {low, low, top, low}, {top, 1, 1, 1}, {low, 1, 1, 1},
		// low above high: what is below low is low, all the rest is above high.
		{0, 5, -5, 5}, {-9, 5, -5, 5}, {4, 5, -5, 5}, {5, 5, -5, -5}, {9, 5, -5, -5},
		{0, top, low, top}, {top, top, low, low},
	} {
		if got := fixq.Clamp(x.a, x.low, x.high); got != x.want {
			t.Errorf("Clamp(%d, %d, %d) = %d, want %d", x.a, x.low, x.high, got, x.want)
		}
	}
}

func TestShift(t *testing.T) {
	for _, x := range []struct {
		a    int32
		by   int
		want int32
	}{
		{5, 0, 5}, {5, 2, 20}, {-5, 2, -20}, {5, -1, 2}, {-5, -1, -3}, {-4, -1, -2},
		{1 << 30, 2, top}, {-1 << 30, 1, low}, {-1 << 30, 2, low}, {1, 30, 1 << 30}, {1, 31, top}, {-1, 31, low},
		{-7, -31, -1}, {-7, -32, -1}, {-7, -99, -1}, {-7, math.MinInt, -1}, {7, -31, 0}, {top, math.MinInt, 0},
		{low, -31, -1}, {top, -30, 1}, {low, -30, -2},
		{0, 32, 0}, {0, math.MaxInt, 0}, {1, 32, top}, {-1, 64, low}, {3, math.MaxInt, top}, {-3, math.MaxInt, low},
	} {
		if got := fixq.Shift(x.a, x.by); got != x.want {
			t.Errorf("Shift(%d, %d) = %d, want %d", x.a, x.by, got, x.want)
		}
	}
	for _, a := range edges {
		for _, by := range counts {
			want := nearest(timesPower(wide(int64(a)), within(by, -31, 31)))
			if got := fixq.Shift(a, by); got != want {
				t.Fatalf("Shift(%d, %d) = %d, want %d", a, by, got, want)
			}
		}
	}
}

func TestSum(t *testing.T) {
	for _, x := range []struct {
		l    []int64
		want int64
	}{
		{nil, 0}, {[]int64{}, 0}, {[]int64{7}, 7}, {[]int64{-5, 3}, -2}, {[]int64{1, 2, 3, 4}, 10},
		{[]int64{low64}, low64}, {[]int64{top64}, top64}, {[]int64{top64, low64}, -1}, {[]int64{low64, top64}, -1},
		{[]int64{top64, 0}, top64}, {[]int64{low64, 0}, low64},
		{[]int64{top64, 1}, top64}, {[]int64{low64, -1}, low64}, {[]int64{top64, top64}, top64}, {[]int64{low64, low64}, low64},
		// Each step saturates: what it cuts off does not come back.
		{[]int64{1 << 62, 1 << 62, -1}, top64 - 1}, {[]int64{-1 << 62, -1 << 62, -1, 1}, low64 + 1},
		{[]int64{top64, 5, -5}, top64 - 5}, {[]int64{-5, top64, 5}, top64}, {[]int64{low64, -9, 9}, low64 + 9},
		{[]int64{low64, -9, top64, top64, 3, low64}, -1},
	} {
		if got := fixq.Sum(x.l...); got != x.want {
			t.Errorf("Sum(%v) = %d, want %d", x.l, got, x.want)
		}
	}
}

func TestSumOfTwoAtAllEdges(t *testing.T) {
	for _, a := range edges64 {
		for _, b := range edges64 {
			exact := new(big.Int).Add(wide(a), wide(b))
			want := exact.Int64()
			if exact.Cmp(wide(top64)) > 0 {
				want = top64
			} else if exact.Cmp(wide(low64)) < 0 {
				want = low64
			}
			if got := fixq.Sum(a, b); got != want {
				t.Errorf("Sum(%d, %d) = %d, want %d", a, b, got, want)
			}
		}
	}
}

func TestRoot(t *testing.T) {
	for _, x := range []struct {
		n    int64
		want int32
	}{
		{0, 0}, {1, 1}, {2, 1}, {3, 1}, {4, 2}, {24, 4}, {25, 5}, {26, 5},
		{-1, 0}, {-25, 0}, {low, 0}, {low64, 0},
		{top * top, top}, {top*top - 1, top - 1}, {top*top + 1, top},
		{1<<62 - 1, top}, {1 << 62, top}, {1<<62 + 1, top}, {top64, top},
	} {
		if got := fixq.Root(x.n); got != x.want {
			t.Errorf("Root(%d) = %d, want %d", x.n, got, x.want)
		}
	}
	for _, a := range edges {
		if a <= 1 {
			continue
		}
		square := int64(a) * int64(a)
		if fixq.Root(square) != a || fixq.Root(square-1) != a-1 || fixq.Root(square+1) != a {
			t.Errorf("Root about the square of %d", a)
		}
	}
}

// TestEndsAndAnswersAlike is for P1 and P2: each call comes back, the second
// time with what the first one gave.
func TestEndsAndAnswersAlike(t *testing.T) {
	run := func() []int64 {
		var got []int64
		for _, n := range edges64 {
			got = append(got, int64(fixq.Sat(n)), int64(fixq.Root(n)), fixq.Sum(n), fixq.Sum(n, n, n))
		}
		for _, a := range edges {
			got = append(got, int64(fixq.Neg(a)), int64(fixq.Abs(a)), int64(fixq.Add(a)))
			for _, by := range counts {
				got = append(got, int64(fixq.Shift(a, by)))
			}
			for _, b := range edges {
				got = append(got, int64(fixq.Sub(a, b)), int64(fixq.Clamp(a, b, -b)), int64(fixq.Add(a, b, a)))
				for _, q := range counts {
					got = append(got, int64(fixq.Mul(a, b, q)), int64(fixq.Div(a, b, q)))
				}
			}
		}
		return append(got, int64(fixq.Add()), fixq.Sum())
	}
	if first := run(); !slices.Equal(first, run()) {
		t.Error("the same calls had different answers")
	}
}

func TestArgumentsStay(t *testing.T) {
	l := []int32{1, 2, 3, 77}
	fixq.Add(l[:3]...)
	m := []int64{top64, 2, low64, 77}
	fixq.Sum(m[:3]...)
	if !slices.Equal(l, []int32{1, 2, 3, 77}) || !slices.Equal(m, []int64{top64, 2, low64, 77}) {
		t.Error("an argument was changed", l, m)
	}
}
