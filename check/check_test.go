package check_test

import (
	"bytes"
	"math"
	"slices"
	"testing"

	"aerie/api"
	"aerie/check"
)

// least and most are the least and the greatest value of a parameter.
const (
	least = math.MinInt32
	most  = math.MaxInt32
)

// kinds are all there are.
var kinds = []byte{check.Limit, check.Expect, check.Delta}

// values are those of parameters, and of Low and High, that are tried with one
// another.
var values = []int32{least, least + 1, -65536, -256, -7, -2, -1, 0, 1, 2, 7, 255, 256, 65536, most - 1, most}

// words are those of bits that are tried with one another.
var words = []uint32{0, 1, 2, 3, 0xf0, 0xff00, 0x0f0f0f0f, 0x7fffffff, 0x80000000, 0xdeadbeef, 0xfffffffe, 0xffffffff}

// noParams are numbers that are no parameter.
var noParams = []int{math.MinInt, math.MinInt + 1, math.MinInt32, -1 << 32, -256, -16, -2, -1, 16, 17, 255, 256, 257, 65536, math.MaxInt32, 1 << 32, 1<<32 + 3, math.MaxInt - 1, math.MaxInt}

func limit(low, high int32) check.Def {
	return check.Def{Kind: check.Limit, Low: low, High: high}
}

func delta(low, high int32) check.Def {
	return check.Def{Kind: check.Delta, Low: low, High: high}
}

func expect(mask, want uint32) check.Def {
	return check.Def{Kind: check.Expect, Mask: mask, Want: want}
}

// wrong are definitions that are not right, each of one cause or more.
func wrong() []check.Def {
	l := []check.Def{
		limit(1, 0), delta(1, 0), limit(most, least), delta(most, least), limit(0, -1), delta(-1, -2), limit(least+1, least), delta(most, most-1),
		{Kind: check.Expect, Low: 1, Mask: 1, Want: 1}, {Kind: check.Expect, High: -1},
		{Kind: 3, Param: 16, Low: 1},
	}
	for kind := 3; kind < 256; kind++ {
		l = append(l, check.Def{Kind: byte(kind), High: 5})
	}
	for _, kind := range kinds {
		for _, param := range noParams {
			l = append(l, check.Def{Kind: kind, Param: param, High: 5, Mask: 1})
		}
	}
	return l
}

// looks checks a Look.
func looks(t *testing.T, d check.Def, now, before int32, first bool, want byte) {
	t.Helper()
	if got := d.Look(now, before, first); got != want {
		t.Errorf("%v.Look(%d, %d, %t) = %d, want %d", d, now, before, first, got, want)
	}
}

// looksAlways checks a Look for which it makes no difference what was before.
func looksAlways(t *testing.T, d check.Def, now int32, want byte) {
	t.Helper()
	for _, before := range values {
		looks(t, d, now, before, false, want)
		looks(t, d, now, before, true, want)
	}
}

// TestNumbers: those of the kinds and of the statuses.
func TestNumbers(t *testing.T) {
	if check.Limit != 0 || check.Expect != 1 || check.Delta != 2 {
		t.Error("kinds", check.Limit, check.Expect, check.Delta)
	}
	got := []int{check.Unchecked, check.Within, check.Below, check.Above, check.Unexpected}
	if !slices.Equal(got, []int{0, 1, 2, 3, 4}) {
		t.Error("statuses", got)
	}
}

// TestExample: the chapter's.
func TestExample(t *testing.T) {
	looksAlways(t, limit(3, 5), 6, check.Above)
}

func TestRight(t *testing.T) {
	for _, kind := range kinds {
		for param := range api.MaxParams {
			for _, low := range values {
				for _, high := range values {
					for _, bits := range words {
						d := check.Def{Kind: kind, Param: param, Low: low, High: high, Mask: bits, Want: ^bits / 3}
						if d.Right() != (low <= high) {
							t.Fatalf("%v.Right() = %t", d, d.Right())
						}
					}
				}
			}
		}
	}
	for _, d := range wrong() {
		if d.Right() {
			t.Errorf("%v is right", d)
		}
	}
	if !(check.Def{}).Right() {
		t.Error("a zero definition is not right: it is a limit from 0 to 0")
	}
}

func TestLimit(t *testing.T) {
	for _, low := range values {
		for _, high := range values {
			if low > high {
				continue
			}
			d := limit(low, high)
			looksAlways(t, d, low, check.Within)
			looksAlways(t, d, high, check.Within)
			if low > least {
				looksAlways(t, d, low-1, check.Below)
				looksAlways(t, d, least, check.Below)
			}
			if high < most {
				looksAlways(t, d, high+1, check.Above)
				looksAlways(t, d, most, check.Above)
			}
			if low < high {
				looksAlways(t, d, low+1, check.Within)
				looksAlways(t, d, high-1, check.Within)
			}
			// The bits are nothing to a limit.
			d.Mask, d.Want = 0xffffffff, 0x12345678
			looksAlways(t, d, low, check.Within)
		}
	}
}

// TestDelta: each difference of two values against each pair of Low and High,
// in a type that holds them all.
func TestDelta(t *testing.T) {
	for _, low := range values {
		for _, high := range values {
			if low > high {
				continue
			}
			d := delta(low, high)
			for _, now := range values {
				for _, before := range values {
					want := byte(check.Within)
					switch difference := float64(now) - float64(before); {
					case difference < float64(low):
						want = check.Below
					case difference > float64(high):
						want = check.Above
					}
					looks(t, d, now, before, false, want)
					looks(t, d, now, before, true, check.Unchecked)
				}
			}
		}
	}
}

// TestDeltaEdges: differences about Low and High, and ones of more than 32
// bits.
func TestDeltaEdges(t *testing.T) {
	d := delta(-3, 4)
	for _, x := range []struct {
		difference int32
		want       byte
	}{
		{-5, check.Below}, {-4, check.Below}, {-3, check.Within}, {-2, check.Within}, {0, check.Within},
		{3, check.Within}, {4, check.Within}, {5, check.Above}, {6, check.Above},
	} {
		for _, before := range []int32{-1000000, -4, -1, 0, 1, 4, 1000000} {
			looks(t, d, before+x.difference, before, false, x.want)
		}
		looks(t, d, x.difference, 0, true, check.Unchecked)
	}
	looks(t, d, most, least, false, check.Above)
	looks(t, d, least, most, false, check.Below)
	whole := delta(least, most)
	looks(t, whole, most, least, false, check.Above)
	looks(t, whole, least, most, false, check.Below)
	looks(t, whole, most, 0, false, check.Within)
	looks(t, whole, most, -1, false, check.Above)
	looks(t, whole, most-1, -1, false, check.Within)
	looks(t, whole, least, 0, false, check.Within)
	looks(t, whole, least, 1, false, check.Below)
	looks(t, whole, least+1, 1, false, check.Within)
	// What would be -1, 1 and 0 if it wrapped round.
	looks(t, delta(-1, 1), most, least, false, check.Above)
	looks(t, delta(-1, 1), least, most, false, check.Below)
	looks(t, delta(0, 0), least, least, false, check.Within)
}

func TestExpect(t *testing.T) {
	for _, mask := range words {
		for _, want := range words {
			d := expect(mask, want)
			for _, bits := range words {
				status := byte(check.Within)
				for i := range 32 {
					if mask>>i&1 == 1 && bits>>i&1 != want>>i&1 {
						status = check.Unexpected
					}
				}
				looksAlways(t, d, int32(bits), status)
			}
		}
	}
}

func TestExpectEdges(t *testing.T) {
	for _, now := range values {
		looksAlways(t, expect(0, 0), now, check.Within)
		looksAlways(t, expect(0, 0xffffffff), now, check.Within)
		looksAlways(t, expect(0xffffffff, uint32(now)), now, check.Within)
		for i := range 32 {
			other := uint32(now) ^ 1<<i
			looksAlways(t, expect(0xffffffff, other), now, check.Unexpected)
			looksAlways(t, expect(1<<i, other), now, check.Unexpected)
			looksAlways(t, expect(0xffffffff&^(1<<i), other), now, check.Within)
		}
	}
	looksAlways(t, expect(0x0f, 0xf5), 5, check.Within)
	looksAlways(t, expect(0x0f, 0xf5), 0xf4, check.Unexpected)
	looksAlways(t, expect(0x80000000, 0x80000000), -1, check.Within)
	looksAlways(t, expect(0x80000000, 0x80000000), most, check.Unexpected)
	// Low and High are nothing to an expected value, if Low is at most High.
	d := expect(0xff, 0x12)
	d.Low, d.High = 100, 200
	looksAlways(t, d, 0x12, check.Within)
	looksAlways(t, d, 150, check.Unexpected)
}

// TestLookWrong: definitions that are not right.
func TestLookWrong(t *testing.T) {
	for _, d := range wrong() {
		for _, now := range values {
			looks(t, d, now, 0, false, check.Unchecked)
			looks(t, d, now, now, false, check.Unchecked)
			looks(t, d, now, 0, true, check.Unchecked)
		}
	}
}

func TestViolatesAndName(t *testing.T) {
	names := []string{"unchecked", "within", "below", "above", "unexpected"}
	for n := range 256 {
		name := ""
		if n < len(names) {
			name = names[n]
		}
		if got := check.Name(byte(n)); got != name {
			t.Errorf("Name(%d) = %q, want %q", n, got, name)
		}
		if got := check.Violates(byte(n)); got != (n >= 2 && n <= 4) {
			t.Errorf("Violates(%d) = %t", n, got)
		}
	}
}

// laid is an encoding, laid out apart from the project's packages.
func laid(d check.Def) []byte {
	p := []byte{d.Kind, byte(d.Param)}
	for _, n := range []int64{int64(d.Low), int64(d.High), int64(d.Mask), int64(d.Want)} {
		if n < 0 {
			n += 1 << 32
		}
		p = append(p, byte(n/(1<<24)), byte(n/(1<<16)%256), byte(n/256%256), byte(n%256))
	}
	return p
}

// bothWays checks the encoding of a definition that is right, there and back.
func bothWays(t *testing.T, d check.Def) {
	t.Helper()
	got, want := d.Bytes(), laid(d)
	if !bytes.Equal(got, want) {
		t.Fatalf("%v.Bytes() = %x, want %x", d, got, want)
	}
	back, err := check.Parse(want)
	if err != api.OK || back != d {
		t.Fatalf("Parse(%x) = %v, %d, want %v", want, back, err, d)
	}
	if !bytes.Equal(want, laid(d)) {
		t.Fatalf("Parse changed its bytes to %x", want)
	}
}

// refused checks a Parse that returns an error.
func refused(t *testing.T, p []byte, want api.Errno) {
	t.Helper()
	kept := bytes.Clone(p)
	if d, err := check.Parse(p); err != want || d != (check.Def{}) {
		t.Errorf("Parse(%x) = %v, %d, want error %d", p, d, err, want)
	}
	if !bytes.Equal(p, kept) {
		t.Errorf("Parse changed its bytes to %x", p)
	}
}

func TestBothWays(t *testing.T) {
	for _, kind := range kinds {
		for param := range api.MaxParams {
			for _, low := range values {
				for _, high := range values {
					if low <= high {
						bothWays(t, check.Def{Kind: kind, Param: param, Low: low, High: high, Mask: uint32(high) * 3, Want: ^uint32(low)})
					}
				}
			}
		}
		for _, mask := range words {
			for _, want := range words {
				bothWays(t, check.Def{Kind: kind, Param: 15, Low: least, High: most, Mask: mask, Want: want})
			}
		}
	}
	d := check.Def{Kind: 2, Param: 7, Low: -2, High: 258, Mask: 0x01020304, Want: 0xfffefdfc}
	want := []byte{2, 7, 255, 255, 255, 254, 0, 0, 1, 2, 1, 2, 3, 4, 255, 254, 253, 252}
	if got := d.Bytes(); !bytes.Equal(got, want) {
		t.Errorf("Bytes() = %x, want %x", got, want)
	}
}

// TestBytesWrong: definitions that are not right, also ones whose numbers would
// be right if only their low bits counted.
func TestBytesWrong(t *testing.T) {
	for _, d := range wrong() {
		if got := d.Bytes(); len(got) != 0 {
			t.Errorf("%v.Bytes() = %x", d, got)
		}
	}
}

func TestParseLengths(t *testing.T) {
	good := laid(check.Def{Kind: check.Limit, Param: 3, Low: -1, High: 1})
	bad := laid(check.Def{Kind: 3, Param: 16, Low: 1})
	refused(t, nil, api.ErrForm)
	refused(t, []byte{}, api.ErrForm)
	for n := range 300 {
		if n == len(good) {
			continue
		}
		refused(t, append(bytes.Clone(good), make([]byte, 300)...)[:n], api.ErrForm)
		refused(t, append(bytes.Clone(bad), make([]byte, 300)...)[:n], api.ErrForm)
	}
}

func TestParseWrong(t *testing.T) {
	for _, kind := range kinds {
		for n := range 256 {
			d := check.Def{Kind: kind, Param: n, Low: -5, High: 5, Mask: 9, Want: 8}
			if n < api.MaxParams {
				bothWays(t, d)
			} else {
				refused(t, laid(d), api.ErrArg)
			}
		}
		for _, low := range values {
			for _, high := range values {
				if low > high {
					refused(t, laid(check.Def{Kind: kind, Low: low, High: high}), api.ErrArg)
				}
			}
		}
	}
	for n := 3; n < 256; n++ {
		refused(t, laid(check.Def{Kind: byte(n), Param: n % 16, Low: -5, High: 5}), api.ErrArg)
	}
	refused(t, bytes.Repeat([]byte{255}, 18), api.ErrArg)
	if d, err := check.Parse(make([]byte, 18)); err != api.OK || d != (check.Def{}) {
		t.Error("Parse of zeros", d, err)
	}
}

// TestMemory: what was handed in, and what was handed out, is the caller's.
func TestMemory(t *testing.T) {
	d := check.Def{Kind: check.Delta, Param: 15, Low: -9, High: 9, Mask: 1, Want: 2}
	spare := append(laid(d), 1, 2, 3)
	if back, err := check.Parse(spare[:18]); err != api.OK || back != d {
		t.Error("Parse", back, err)
	}
	if !bytes.Equal(spare, append(laid(d), 1, 2, 3)) {
		t.Errorf("Parse changed what lies behind its bytes: %x", spare)
	}
	one, two := d.Bytes(), d.Bytes()
	for i := range one[:cap(one)] {
		one[:cap(one)][i] = 99
	}
	if !bytes.Equal(two, laid(d)) || !bytes.Equal(d.Bytes(), laid(d)) {
		t.Error("two results share memory")
	}
}
