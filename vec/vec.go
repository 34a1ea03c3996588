// Package vec implements three-dimensional vector arithmetic in fixed point:
// layer 2, see shared/doc/02-vec.md.
package vec

import (
	"aerie/api"
	"aerie/fixq"
)

// Add returns the exact sum of all, saturated component by component.
func Add(l ...api.Vec) api.Vec {
	return each(func(i int) int32 { return fixq.Add(column(l, i)...) })
}

// Sub returns a - b, saturated.
func Sub(a, b api.Vec) api.Vec {
	return each(func(i int) int32 { return fixq.Sub(a[i], b[i]) })
}

// Neg returns -a, saturated.
func Neg(a api.Vec) api.Vec {
	return each(func(i int) int32 { return fixq.Neg(a[i]) })
}

// Scale returns a k / 2^q, rounded down, saturated.
func Scale(a api.Vec, k int32, q int) api.Vec {
	return each(func(i int) int32 { return fixq.Mul(a[i], k, q) })
}

// Dot returns the inner product, saturated to 64 bits product by product.
func Dot(a, b api.Vec) int64 {
	products := each(func(i int) int64 { return int64(a[i]) * int64(b[i]) })
	return fixq.Sum(products[:]...)
}

// Cross returns the cross product / 2^q, rounded down, saturated.
func Cross(a, b api.Vec, q int) api.Vec {
	// fixq bounds a q only where it multiplies or divides 32-bit numbers,
	// and these products are of 64 bits.
	q = max(0, min(q, 31))
	return each(func(i int) int32 {
		j, k := (i+1)%3, (i+2)%3
		// No product is above 2^62, and none is as low as -2^62: the
		// difference fits, and is not saturated before it is shifted.
		exact := int64(a[j])*int64(b[k]) - int64(a[k])*int64(b[j])
		return fixq.Sat(exact >> q)
	})
}

// Norm returns the greatest magnitude of a component.
func Norm(a api.Vec) int32 {
	sizes := each(func(i int) int32 { return fixq.Abs(a[i]) })
	return max(sizes[0], sizes[1], sizes[2])
}

// Size returns the length of a, rounded down, saturated.
func Size(a api.Vec) int32 { return fixq.Root(Dot(a, a)) }

// Clamp returns a with each component limited to -most .. most; zeros if most
// is negative.
func Clamp(a api.Vec, most int32) api.Vec {
	// A negative most would give limits that are crossed.
	most = max(most, 0)
	return each(func(i int) int32 { return fixq.Clamp(a[i], -most, most) })
}

// Signs returns 1 for each component above dead, -1 for each below -dead, and
// 0 for the others; a negative dead counts as 0.
func Signs(a api.Vec, dead int32) [3]int {
	dead = max(dead, 0)
	return each(func(i int) int { return sign(a[i], dead) })
}

// Zero reports whether all components are 0.
func Zero(a api.Vec) bool { return a == api.Vec{} }

// each makes three things component by component, so that each operation
// above is written once for all three.
func each[T any](component func(i int) T) [3]T {
	return [3]T{component(0), component(1), component(2)}
}

func column(l []api.Vec, i int) []int32 {
	out := make([]int32, 0, len(l))
	for _, v := range l {
		out = append(out, v[i])
	}
	return out
}

func sign(n, dead int32) int {
	switch {
	case n > dead:
		return 1
	case n < -dead:
		return -1
	}
	return 0
}
