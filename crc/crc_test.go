package crc_test

import (
	"bytes"
	"testing"

	"aerie/api"
	"aerie/crc"
)

// divided is the checksum worked out otherwise than by the package: the text,
// its first sixteen bits inverted and sixteen zeros behind it, is divided by
// 11021 bit by bit, and what is left over is the checksum.
func divided(text []byte) uint16 {
	long := append(bytes.Clone(text), 0, 0)
	long[0] ^= 0xff
	long[1] ^= 0xff
	rest := uint32(0)
	for _, b := range long {
		for bit := 7; bit >= 0; bit-- {
			rest = rest<<1 | uint32(b>>bit)&1
			if rest&0x10000 != 0 {
				rest ^= 0x11021
			}
		}
	}
	return uint16(rest)
}

// text is a text of that many bytes, the same one in each run.
func text(n int, seed uint32) []byte {
	p := make([]byte, n)
	for i := range p {
		seed = seed*1664525 + 1013904223
		p[i] = byte(seed >> 24)
	}
	return p
}

func invert(p []byte, bit int) { p[bit/8] ^= 0x80 >> (bit % 8) }

func TestSum(t *testing.T) {
	table := crc.Make()
	for _, x := range []struct {
		text string
		want uint16
	}{
		{"", 0xffff}, {"123456789", 0x29b1}, {"A", 0xb915}, {"\x00", 0xe1f0}, {"\xff", 0xff00}, {"\xff\xff", 0}, {"\xff\xff\xff", 0x1ef0},
		{"\x00\x00\x00\x00", 0x84c0}, {"\x18\x05\xc0\x01\x00\x02\x2a", 0xb05f},
	} {
		if got := table.Sum([]byte(x.text)); got != x.want {
			t.Errorf("Sum(%q) = %04x, want %04x", x.text, got, x.want)
		}
	}
	for n := range 300 {
		p := text(n, uint32(n))
		if got, want := table.Sum(p), divided(p); got != want {
			t.Fatalf("Sum of %d bytes: %04x, want %04x", n, got, want)
		}
	}
}

func TestSumOfParts(t *testing.T) {
	table := crc.Make()
	for _, parts := range [][][]byte{nil, {}, {nil}, {{}}, {nil, {}, nil}} {
		if got := table.Sum(parts...); got != 0xffff {
			t.Errorf("Sum(%v) = %04x, want ffff", parts, got)
		}
	}
	p := text(40, 1)
	want := table.Sum(p)
	for i := range len(p) + 1 {
		for j := i; j <= len(p); j++ {
			if got := table.Sum(p[:i], p[i:j], nil, p[j:]); got != want {
				t.Fatalf("in parts cut at %d and %d: %04x, want %04x", i, j, got, want)
			}
		}
	}
	var single [][]byte
	for i := range p {
		single = append(single, p[i:i+1])
	}
	if got := table.Sum(single...); got != want {
		t.Errorf("byte by byte: %04x, want %04x", got, want)
	}
}

func TestMake(t *testing.T) {
	table := crc.Make()
	for i := range 256 {
		if table[i] != crc.Step(0, byte(i)) {
			t.Errorf("[%02x] = %04x", i, table[i])
		}
	}
	if table[0] != 0 || table[1] != 0x1021 || table[2] != 0x2042 || table[16] != 0x1231 || table[255] != 0x1ef0 {
		t.Errorf("%04x %04x %04x %04x %04x", table[0], table[1], table[2], table[16], table[255])
	}
	if table != crc.Make() {
		t.Error("another table")
	}
}

func TestStep(t *testing.T) {
	table := crc.Make()
	for _, x := range []struct {
		sum  uint16
		b    byte
		want uint16
	}{{0, 0, 0}, {0, 1, 0x1021}, {0xffff, 0, 0xe1f0}, {0xffff, 0xff, 0xff00}, {0xffff, 'A', 0xb915}, {0x1000, 0, 0x1231}, {0x0100, 0, 0x1021}, {0x0001, 0, 0x0100}} {
		if got := crc.Step(x.sum, x.b); got != x.want {
			t.Errorf("Step(%04x, %02x) = %04x, want %04x", x.sum, x.b, got, x.want)
		}
	}
	p := text(500, 2)
	sum := uint16(0xffff)
	for i, b := range p {
		if got := table.Sum(p[:i]); got != sum {
			t.Fatalf("after %d bytes: Sum %04x, Step %04x", i, got, sum)
		}
		sum = crc.Step(sum, b)
	}
}

// TestStepOfEverySum: the table's way and the bits' way agree from every sum.
func TestStepOfEverySum(t *testing.T) {
	table := crc.Make()
	for sum := range 65536 {
		x := uint16(sum)
		for _, b := range []byte{0, 1, 0x80, 0xff, byte(sum), byte(sum >> 8), byte(sum * 37)} {
			if got, want := crc.Step(x, b), x<<8^table[byte(x>>8)^b]; got != want {
				t.Fatalf("Step(%04x, %02x) = %04x, want %04x", x, b, got, want)
			}
		}
	}
}

func TestAppend(t *testing.T) {
	table := crc.Make()
	for _, x := range []struct{ text, want string }{
		{"", "\xff\xff"}, {"123456789", "123456789\x29\xb1"}, {"A", "A\xb9\x15"}, {"\xff\xff", "\xff\xff\x00\x00"},
	} {
		if got := table.Append([]byte(x.text)); string(got) != x.want {
			t.Errorf("Append(%q) = %x, want %x", x.text, got, x.want)
		}
	}
	if got := table.Append(nil); string(got) != "\xff\xff" {
		t.Errorf("Append(nil) = %x", got)
	}
	for n := range 300 {
		p := text(n, uint32(n))
		got, sum := table.Append(p), divided(p)
		if !bytes.Equal(got, append(bytes.Clone(p), byte(sum>>8), byte(sum))) || !table.Right(got) {
			t.Fatalf("Append of %d bytes: %x", n, got)
		}
		if back, err := table.Cut(got); err != api.OK || !bytes.Equal(back, p) {
			t.Fatalf("Cut of %d bytes: %x, %d", n, back, err)
		}
	}
}

func TestRightAndCut(t *testing.T) {
	table := crc.Make()
	for _, x := range []struct {
		text string
		cut  string
		err  api.Errno
	}{
		{"", "", api.ErrForm}, {"\xff", "", api.ErrForm}, {"\x00", "", api.ErrForm},
		{"\xff\xff", "", api.OK}, {"\x00\x00", "", api.ErrCrc}, {"\xff\xfe", "", api.ErrCrc}, {"\x7f\xff", "", api.ErrCrc},
		{"A\xb9\x15", "A", api.OK}, {"A\x15\xb9", "", api.ErrCrc}, {"B\xb9\x15", "", api.ErrCrc}, {"A\xb9\x14", "", api.ErrCrc}, {"A\xb8\x15", "", api.ErrCrc},
		{"123456789\x29\xb1", "123456789", api.OK}, {"123456789\xb1\x29", "", api.ErrCrc}, {"123456789", "", api.ErrCrc}, {"123456798\x29\xb1", "", api.ErrCrc},
		{"123456789\x29\xb1\x01", "", api.ErrCrc}, {"123456789\x29", "", api.ErrCrc}, {"23456789\x29\xb1", "", api.ErrCrc},
	} {
		p := []byte(x.text)
		if got := table.Right(p); got != (x.err == api.OK) {
			t.Errorf("Right(%q) = %t", x.text, got)
		}
		if got, err := table.Cut(p); string(got) != x.cut || err != x.err || err != api.OK && got != nil {
			t.Errorf("Cut(%q) = %q, %d, want %q, %d", x.text, got, err, x.cut, x.err)
		}
		if string(p) != x.text {
			t.Errorf("the argument %q was changed", x.text)
		}
	}
	if table.Right(nil) {
		t.Error("Right(nil)")
	}
	if got, err := table.Cut(nil); got != nil || err != api.ErrForm {
		t.Error("Cut(nil)", got, err)
	}
}

// TestMemory: what was handed in and what was handed out is the caller's.
func TestMemory(t *testing.T) {
	table := crc.Make()
	whole := []byte("12345678977777")
	p := whole[:9]
	one, two := table.Append(p), table.Append(p)
	if string(whole) != "12345678977777" {
		t.Errorf("the argument, or what it has to spare, was changed: %q", whole)
	}
	spoil(one)
	if string(whole) != "12345678977777" || string(two) != "123456789\x29\xb1" {
		t.Errorf("Append's results share memory: %q, %q", whole, two)
	}
	cut, again := must(t, table, two), must(t, table, two)
	spoil(cut)
	if string(two) != "123456789\x29\xb1" || string(again) != "123456789" {
		t.Errorf("Cut's results share memory: %q, %q", two, again)
	}
	spoil(two)
	if string(again) != "123456789" {
		t.Errorf("Cut's argument was kept: %q", again)
	}
	table.Sum(p, whole[9:])
	crc.Make()
	if string(whole) != "12345678977777" || table != crc.Make() {
		t.Error("an argument, or the table, was changed")
	}
}

func must(t *testing.T, table crc.Table, p []byte) []byte {
	t.Helper()
	cut, err := table.Cut(p)
	if err != api.OK {
		t.Fatal("Cut", err)
	}
	return cut
}

// spoil overwrites a list, and what capacity it has to spare.
func spoil(p []byte) {
	p = p[:cap(p)]
	for i := range p {
		p[i] = 0xee
	}
}

// TestBursts inverts every pattern of bits within sixteen, at every place of
// short texts, the last two bytes among them.
func TestBursts(t *testing.T) {
	table := crc.Make()
	for n := range 7 {
		p := table.Append(text(n, 3))
		for first := range 8 * len(p) {
			reach := min(16, 8*len(p)-first)
			for pattern := 1; pattern < 1<<reach; pattern += 2 {
				invertAll(p, first, pattern)
				if table.Right(p) {
					t.Fatalf("%d bytes: right, inverted from bit %d on by %04x", len(p), first, pattern)
				}
				invertAll(p, first, pattern)
			}
		}
	}
}

func TestBurstsInLongTexts(t *testing.T) {
	table := crc.Make()
	p := table.Append(text(4093, 4))
	last := 8*len(p) - 16
	for first := 0; first < last; first += 97 {
		burst(t, table, p, first)
	}
	burst(t, table, p, last)
	if !table.Right(p) {
		t.Error("not put back")
	}
}

// burst inverts bits of p within sixteen, in several patterns, and puts them
// back each time.
func burst(t *testing.T, table crc.Table, p []byte, first int) {
	t.Helper()
	for _, pattern := range []int{0xffff, 0x8001, 0x1021, 0x8408, 0xa5a5, 1} {
		invertAll(p, first, pattern)
		if table.Right(p) {
			t.Fatalf("right, inverted from bit %d on by %04x", first, pattern)
		}
		invertAll(p, first, pattern)
	}
}

func invertAll(p []byte, first, pattern int) {
	for bit := range 16 {
		if pattern>>bit&1 == 1 {
			invert(p, first+bit)
		}
	}
}

// TestAnyTwoBits inverts each pair of bits of short texts.
func TestAnyTwoBits(t *testing.T) {
	table := crc.Make()
	for _, n := range []int{0, 1, 2, 9, 30} {
		p := table.Append(text(n, 5))
		for i := range 8 * len(p) {
			invert(p, i)
			if table.Right(p) {
				t.Fatalf("%d bytes: right with bit %d inverted", len(p), i)
			}
			for j := range i {
				invert(p, j)
				if table.Right(p) {
					t.Fatalf("%d bytes: right with the bits %d and %d inverted", len(p), j, i)
				}
				invert(p, j)
			}
			invert(p, i)
		}
		if !table.Right(p) {
			t.Fatal("not put back")
		}
	}
}

// TestAnyTwoBitsOfTheLongest: each bit of 4095 bytes moves the checksum, or
// what stands for it, by a number of its own, so that no two hide each other.
func TestAnyTwoBitsOfTheLongest(t *testing.T) {
	table := crc.Make()
	p := table.Append(text(4093, 6))
	end := len(p) - 2
	seen := map[uint16]int{}
	for i := range 8 * len(p) {
		invert(p, i)
		moved := table.Sum(p[:end]) ^ (uint16(p[end])<<8 | uint16(p[end+1]))
		invert(p, i)
		if other, ok := seen[moved]; ok || moved == 0 {
			t.Fatalf("bits %d and %d move the checksum alike, by %04x", other, i, moved)
		}
		seen[moved] = i
	}
	if !table.Right(p) {
		t.Fatal("not put back")
	}
}

func TestTwoBitsFarApart(t *testing.T) {
	table := crc.Make()
	p := table.Append(text(4093, 7))
	most := 8*len(p) - 1
	for _, i := range []int{0, 1, 7, 8, 4097, most/2 + 1, most - 16, most - 15, most - 1, most} {
		for j := 0; j < i; j += 211 {
			twoBits(t, table, p, i, j)
		}
		for j := max(0, i-20); j < i; j++ {
			twoBits(t, table, p, i, j)
		}
	}
}

func twoBits(t *testing.T, table crc.Table, p []byte, i, j int) {
	t.Helper()
	invert(p, i)
	invert(p, j)
	if table.Right(p) {
		t.Fatalf("right with the bits %d and %d inverted", j, i)
	}
	invert(p, i)
	invert(p, j)
}
