package vec_test

import (
	"math"
	"math/big"
	"slices"
	"testing"

	"aerie/api"
	"aerie/fixq"
	"aerie/vec"
)

const (
	top = math.MaxInt32
	low = math.MinInt32
)

// edges are vectors whose components lie where roundings and saturations turn,
// each in a place of its own.
func edges() []api.Vec {
	l := []int32{low, low + 1, -1 << 30, -65536, -7, -1, 0, 1, 5, 46341, 1 << 30, top - 1, top}
	var out []api.Vec
	for i, n := range l {
		out = append(out, api.Vec{n, n, n}, api.Vec{n, l[(i+3)%len(l)], l[(i+7)%len(l)]},
			api.Vec{0, n, -1}, api.Vec{n, 0, top}, api.Vec{low, top, n})
	}
	return out
}

var counts = []int{math.MinInt, -1 << 32, -1, 0, 1, 2, 16, 30, 31, 32, 64, 1 << 32, math.MaxInt}

func nearest(n *big.Int) int32 {
	if n.Cmp(big.NewInt(top)) > 0 {
		return top
	}
	if n.Cmp(big.NewInt(low)) < 0 {
		return low
	}
	return int32(n.Int64())
}

func times(a, b int32) *big.Int {
	return new(big.Int).Mul(big.NewInt(int64(a)), big.NewInt(int64(b)))
}

func TestAdd(t *testing.T) {
	for _, x := range []struct {
		l    []api.Vec
		want api.Vec
	}{
		{nil, api.Vec{}}, {[]api.Vec{}, api.Vec{}},
		{[]api.Vec{{1, -2, 3}}, api.Vec{1, -2, 3}},
		{[]api.Vec{{1, 2, 3}, {4, 5, 6}, {1, 2, 3}}, api.Vec{6, 9, 12}},
		{[]api.Vec{{top, low, 0}, {1, -1, 0}}, api.Vec{top, low, 0}},
		{[]api.Vec{{top, low, 1}, {top, low, 2}, {low, top, 3}, {low, top, 4}}, api.Vec{-2, -2, 10}},
		{[]api.Vec{{top, low, 1}, {1, -1, 1}, {-5, 5, 1}}, api.Vec{top - 4, low + 4, 3}},
	} {
		if got := vec.Add(x.l...); got != x.want {
			t.Errorf("Add(%v) = %v, want %v", x.l, got, x.want)
		}
	}
}

func TestSubNegScale(t *testing.T) {
	a, b := api.Vec{1, 2, 3}, api.Vec{4, -5, 6}
	if got := vec.Sub(a, b); got != (api.Vec{-3, 7, -3}) {
		t.Error("Sub", got)
	}
	if got := vec.Sub(api.Vec{low, top, 0}, api.Vec{1, -1, low}); got != (api.Vec{low, top, top}) {
		t.Error("Sub at the ends", got)
	}
	if got := vec.Neg(api.Vec{low, top, -3}); got != (api.Vec{top, -top, 3}) {
		t.Error("Neg", got)
	}
	if got := vec.Scale(api.Vec{1, -2, 3}, 3, 1); got != (api.Vec{1, -3, 4}) {
		t.Error("Scale", got)
	}
	if got := vec.Scale(api.Vec{-1, low, top}, 3, 0); got != (api.Vec{-3, low, top}) {
		t.Error("Scale at the ends", got)
	}
}

func TestComponentsAreThoseOfLayer1(t *testing.T) {
	for _, a := range edges() {
		for _, b := range edges() {
			sum, sub, neg := vec.Add(a, b), vec.Sub(a, b), vec.Neg(a)
			for i := range 3 {
				if sum[i] != fixq.Add(a[i], b[i]) || sub[i] != fixq.Sub(a[i], b[i]) || neg[i] != fixq.Neg(a[i]) {
					t.Fatal("component", i, "of", a, b)
				}
			}
		}
		for _, k := range []int32{low, -3, 0, 1, 65536, top} {
			for _, q := range counts {
				got := vec.Scale(a, k, q)
				for i := range 3 {
					if got[i] != fixq.Mul(a[i], k, q) {
						t.Fatalf("Scale(%v, %d, %d) = %v", a, k, q, got)
					}
				}
			}
		}
	}
}

func TestDot(t *testing.T) {
	for _, x := range []struct {
		a, b api.Vec
		want int64
	}{
		{api.Vec{}, api.Vec{1, 2, 3}, 0}, {api.Vec{1, 2, 3}, api.Vec{4, 5, 6}, 32}, {api.Vec{1, -2, 3}, api.Vec{4, 5, -6}, -24},
		{api.Vec{low, 0, 0}, api.Vec{low, 0, 0}, 1 << 62}, {api.Vec{low, low, 0}, api.Vec{low, low, 0}, math.MaxInt64},
		{api.Vec{low, low, low}, api.Vec{low, low, low}, math.MaxInt64},
		{api.Vec{low, low, low}, api.Vec{top, top, top}, math.MinInt64},
		// The sum saturates after the second product, the third comes off that.
		{api.Vec{low, low, 1}, api.Vec{low, low, -1}, math.MaxInt64 - 1},
		{api.Vec{-1, low, low}, api.Vec{1, low, low}, math.MaxInt64},
	} {
		if got := vec.Dot(x.a, x.b); got != x.want {
			t.Errorf("Dot(%v, %v) = %d, want %d", x.a, x.b, got, x.want)
		}
	}
	for _, a := range edges() {
		for _, b := range edges() {
			want := fixq.Sum(int64(a[0])*int64(b[0]), int64(a[1])*int64(b[1]), int64(a[2])*int64(b[2]))
			if got := vec.Dot(a, b); got != want {
				t.Fatalf("Dot(%v, %v) = %d, want %d", a, b, got, want)
			}
		}
	}
}

func TestCross(t *testing.T) {
	for _, x := range []struct {
		a, b api.Vec
		q    int
		want api.Vec
	}{
		{api.Vec{1, 0, 0}, api.Vec{0, 1, 0}, 0, api.Vec{0, 0, 1}},
		{api.Vec{0, 1, 0}, api.Vec{0, 0, 1}, 0, api.Vec{1, 0, 0}},
		{api.Vec{0, 0, 1}, api.Vec{1, 0, 0}, 0, api.Vec{0, 1, 0}},
		{api.Vec{0, 1, 0}, api.Vec{1, 0, 0}, 0, api.Vec{0, 0, -1}},
		{api.Vec{1, 2, 3}, api.Vec{4, 5, 6}, 0, api.Vec{-3, 6, -3}},
		{api.Vec{1, 2, 3}, api.Vec{4, 5, 6}, 1, api.Vec{-2, 3, -2}},
		{api.Vec{1, 2, 3}, api.Vec{4, 5, 6}, -1, api.Vec{-3, 6, -3}},
		{api.Vec{1, 2, 3}, api.Vec{4, 5, 6}, 99, api.Vec{-1, 0, -1}},
		// Above 32 bits until it is divided, and above 2^62 before.
		{api.Vec{1 << 20, 0, 0}, api.Vec{0, 1 << 20, 0}, 16, api.Vec{0, 0, 1 << 24}},
		{api.Vec{1 << 20, 0, 0}, api.Vec{0, 1 << 20, 0}, 0, api.Vec{0, 0, top}},
		{api.Vec{0, 1 << 20, 0}, api.Vec{1 << 20, 0, 0}, 0, api.Vec{0, 0, low}},
		{api.Vec{low, low, 0}, api.Vec{top, low, 0}, 31, api.Vec{0, 0, top}},
		{api.Vec{low, low, 0}, api.Vec{low, top, 0}, 31, api.Vec{0, 0, low}},
	} {
		if got := vec.Cross(x.a, x.b, x.q); got != x.want {
			t.Errorf("Cross(%v, %v, %d) = %v, want %v", x.a, x.b, x.q, got, x.want)
		}
	}
}

func TestCrossAtAllEdges(t *testing.T) {
	for _, a := range edges() {
		for _, b := range edges() {
			for _, q := range counts {
				got := vec.Cross(a, b, q)
				bits := uint(q)
				if q < 0 {
					bits = 0
				} else if q > 31 {
					bits = 31
				}
				for i := range 3 {
					j, k := (i+1)%3, (i+2)%3
					if a[j] == low && a[k] == low && b[j] == low && b[k] == low {
						continue // nothing is promised
					}
					exact := times(a[j], b[k])
					exact.Sub(exact, times(a[k], b[j]))
					if want := nearest(exact.Rsh(exact, bits)); got[i] != want {
						t.Fatalf("Cross(%v, %v, %d)[%d] = %d, want %d", a, b, q, i, got[i], want)
					}
				}
			}
		}
	}
}

func TestNorm(t *testing.T) {
	for _, x := range []struct {
		a    api.Vec
		want int32
	}{
		{api.Vec{}, 0}, {api.Vec{1, -9, 3}, 9}, {api.Vec{9, 1, 3}, 9}, {api.Vec{1, 3, -9}, 9}, {api.Vec{-2, -2, -1}, 2},
		{api.Vec{low, 0, 0}, top}, {api.Vec{0, 0, top}, top}, {api.Vec{0, low + 2, 0}, top - 1},
	} {
		if got := vec.Norm(x.a); got != x.want {
			t.Errorf("Norm(%v) = %d, want %d", x.a, got, x.want)
		}
	}
}

func TestSize(t *testing.T) {
	for _, x := range []struct {
		a    api.Vec
		want int32
	}{
		{api.Vec{}, 0}, {api.Vec{3, 4, 0}, 5}, {api.Vec{-3, 4, 12}, 13}, {api.Vec{1, 1, 1}, 1}, {api.Vec{1, 2, 2}, 3}, {api.Vec{2, 2, 2}, 3},
		{api.Vec{0, 0, -top}, top}, {api.Vec{top, 0, 1}, top}, {api.Vec{low, 0, 0}, top}, {api.Vec{low, low, low}, top}, {api.Vec{top, top, top}, top},
	} {
		if got := vec.Size(x.a); got != x.want {
			t.Errorf("Size(%v) = %d, want %d", x.a, got, x.want)
		}
	}
}

func TestClamp(t *testing.T) {
	for _, x := range []struct {
		a    api.Vec
		most int32
		want api.Vec
	}{
		{api.Vec{9, -9, 1}, 5, api.Vec{5, -5, 1}}, {api.Vec{5, -5, 0}, 5, api.Vec{5, -5, 0}}, {api.Vec{6, -6, -4}, 5, api.Vec{5, -5, -4}},
		{api.Vec{9, -9, 1}, 0, api.Vec{}}, {api.Vec{9, -9, 1}, -1, api.Vec{}}, {api.Vec{9, -9, 0}, -5, api.Vec{}}, {api.Vec{low, top, 1}, low, api.Vec{}},
		{api.Vec{low, top, -7}, top, api.Vec{-top, top, -7}},
	} {
		if got := vec.Clamp(x.a, x.most); got != x.want {
			t.Errorf("Clamp(%v, %d) = %v, want %v", x.a, x.most, got, x.want)
		}
	}
}

func TestSigns(t *testing.T) {
	for _, x := range []struct {
		a    api.Vec
		dead int32
		want [3]int
	}{
		{api.Vec{9, -9, 1}, 1, [3]int{1, -1, 0}}, {api.Vec{5, -5, 0}, 5, [3]int{}}, {api.Vec{6, -6, 5}, 5, [3]int{1, -1, 0}},
		{api.Vec{1, -1, 0}, 0, [3]int{1, -1, 0}}, {api.Vec{1, -1, 0}, -1, [3]int{1, -1, 0}}, {api.Vec{0, 3, -3}, -9, [3]int{0, 1, -1}},
		{api.Vec{0, top, low}, low, [3]int{0, 1, -1}}, {api.Vec{low, top, -top}, top, [3]int{-1, 0, 0}}, {api.Vec{low, top, 0}, top - 1, [3]int{-1, 1, 0}},
	} {
		if got := vec.Signs(x.a, x.dead); got != x.want {
			t.Errorf("Signs(%v, %d) = %v, want %v", x.a, x.dead, got, x.want)
		}
	}
}

func TestZero(t *testing.T) {
	if !vec.Zero(api.Vec{}) {
		t.Error("zeros")
	}
	for i := range 3 {
		for _, n := range []int32{low, -1, 1, top} {
			var a api.Vec
			a[i] = n
			if vec.Zero(a) {
				t.Error("not zeros:", a)
			}
		}
	}
}

// TestEndsAndAnswersAlike is for P1 and P2: each call comes back, the second
// time with what the first one gave. The products of which nothing else is
// promised are among them.
func TestEndsAndAnswersAlike(t *testing.T) {
	run := func() []api.Vec {
		var got []api.Vec
		for _, a := range edges() {
			got = append(got, vec.Neg(a), api.Vec{vec.Norm(a), vec.Size(a)})
			for _, n := range []int32{low, -1, 0, 1, top} {
				signs := vec.Signs(a, n)
				got = append(got, vec.Clamp(a, n), api.Vec{int32(signs[0]), int32(signs[1]), int32(signs[2])})
			}
			for _, b := range edges() {
				got = append(got, vec.Add(a, b, a), vec.Sub(a, b), api.Vec{fixq.Sat(vec.Dot(a, b))})
				for _, q := range counts {
					got = append(got, vec.Cross(a, b, q), vec.Scale(a, b[0], q))
				}
			}
		}
		return append(got, vec.Add())
	}
	if first := run(); !slices.Equal(first, run()) {
		t.Error("the same calls had different answers")
	}
}

func TestArgumentsStay(t *testing.T) {
	l := []api.Vec{{1, 2, 3}, {top, low, 0}, {7, 7, 7}}
	want := slices.Clone(l)
	vec.Add(l[:2]...)
	if !slices.Equal(l, want) {
		t.Error("an argument was changed", l)
	}
}
