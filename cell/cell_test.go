package cell_test

import (
	"bytes"
	"math"
	"testing"

	"aerie/api"
	"aerie/bits"
	"aerie/cell"
)

const last = math.MaxUint32 // the greatest number

// checked is p with its checksum, worked out bit by bit and not by the
// project's package.
func checked(p []byte) []byte {
	sum := 0xffff
	for _, b := range p {
		for bit := 7; bit >= 0; bit-- {
			out := sum>>15 ^ int(b>>bit)&1
			sum = sum << 1 & 0xffff
			if out == 1 {
				sum ^= 0x1021
			}
		}
	}
	return append(bytes.Clone(p), byte(sum>>8), byte(sum))
}

// laid is a cell as the document tells it, which may state another size than
// the data's and have any amount of data.
func laid(seq uint32, size int, data []byte) []byte {
	p := []byte{byte(seq >> 24), byte(seq >> 16), byte(seq >> 8), byte(seq), byte(size >> 8), byte(size)}
	return checked(append(p, data...))
}

// made is a cell whose data is a text.
func made(seq uint32, text string) []byte { return laid(seq, len(text), []byte(text)) }

// filled are n bytes, the same ones in each run.
func filled(n int) []byte {
	p := make([]byte, n)
	for i := range p {
		p[i] = byte(i*7 + n)
	}
	return p
}

// spoilt is p with a bit of the byte at that place inverted.
func spoilt(p []byte, at int) []byte {
	q := bytes.Clone(p)
	q[at] ^= 1
	return q
}

// overwrite overwrites a list, and what capacity it has to spare.
func overwrite(p []byte) {
	p = p[:cap(p)]
	for i := range p {
		p[i] = 0xee
	}
}

// parses checks what Parse gives, zero values among it, and that the argument
// stays as it was.
func parses(t *testing.T, name string, p []byte, seq uint32, data []byte, err api.Errno) {
	t.Helper()
	before := bytes.Clone(p)
	gotSeq, got, gotErr := cell.Parse(p)
	if gotSeq != seq || !bytes.Equal(got, data) || gotErr != err {
		t.Errorf("%s: Parse = %d, %x, %d, want %d, %x, %d", name, gotSeq, got, gotErr, seq, data, err)
	}
	if err != api.OK && got != nil {
		t.Errorf("%s: data beside an error", name)
	}
	if !bytes.Equal(p, before) {
		t.Errorf("%s: the argument was changed", name)
	}
}

// refused checks that Parse gives this error and zero values.
func refused(t *testing.T, name string, p []byte, err api.Errno) {
	t.Helper()
	parses(t, name, p, 0, nil, err)
}

func TestMakeLiterally(t *testing.T) {
	for _, x := range []struct {
		seq        uint32
		data, want string
	}{
		{0, "", "\x00\x00\x00\x00\x00\x00\x0e\x10"},
		{0x01020304, "AB", "\x01\x02\x03\x04\x00\x02AB\x69\xf3"},
		{last, "", "\xff\xff\xff\xff\x00\x00\x84\xc0"},
		{5, "\x00", "\x00\x00\x00\x05\x00\x01\x00\x7e\xba"},
	} {
		got, err := cell.Make(x.seq, []byte(x.data))
		if err != api.OK || string(got) != x.want {
			t.Errorf("Make(%d, %q) = %x, %d, want %x", x.seq, x.data, got, err, x.want)
		}
		parses(t, "literal", []byte(x.want), x.seq, []byte(x.data), api.OK)
	}
}

func TestMakeAndParse(t *testing.T) {
	for n := range api.MaxData + 1 {
		for _, seq := range []uint32{0, 1, 255, 256, 65535, 65536, 0x01020304, 1<<31 - 1, 1 << 31, last - 1, last} {
			data := filled(n)
			got, err := cell.Make(seq, data)
			if want := laid(seq, n, data); err != api.OK || !bytes.Equal(got, want) {
				t.Fatalf("Make(%d, %d bytes) = %x, %d, want %x", seq, n, got, err, want)
			}
			parses(t, "made", got, seq, data, api.OK)
		}
	}
	for _, none := range [][]byte{nil, {}} {
		got, err := cell.Make(7, none)
		if err != api.OK || !bytes.Equal(got, made(7, "")) {
			t.Errorf("no data: %x, %d", got, err)
		}
	}
}

func TestMakeTooLong(t *testing.T) {
	for _, n := range []int{api.MaxData + 1, api.MaxData + 2, 255, 256, 257, 456, 65535, 65536, 65536 + 1, 65536 + api.MaxData, 1 << 20} {
		for _, seq := range []uint32{0, 9, last} {
			if got, err := cell.Make(seq, filled(n)); got != nil || err != api.ErrLong {
				t.Errorf("Make(%d, %d bytes) = %d bytes, %d, want none, ErrLong", seq, n, len(got), err)
			}
		}
	}
}

func TestParseTooFewBytes(t *testing.T) {
	refused(t, "nil", nil, api.ErrForm)
	whole := made(0, "")
	for n := range len(whole) {
		refused(t, "a part of a cell", whole[:n], api.ErrForm)
		// What ends with a right checksum is no cell either.
		if n >= 2 {
			refused(t, "with a checksum", checked(make([]byte, n-2)), api.ErrForm)
		}
	}
	parses(t, "eight bytes", whole, 0, nil, api.OK)
}

func TestParseOtherThanStated(t *testing.T) {
	for _, n := range []int{0, 1, 2, 3, 17, 199, 200} {
		data := filled(n)
		for _, size := range []int{n - 2, n - 1, n + 1, n + 2, n + 8, n + 256, n + 512, 65535, 256 * n} {
			if size < 0 || size == n {
				continue
			}
			p := laid(3, size, data)
			refused(t, "another size", p, api.ErrForm)
			refused(t, "another size, a wrong checksum", spoilt(p, len(p)-1), api.ErrForm)
		}
		whole := laid(3, n, data)
		refused(t, "a byte fewer", whole[:len(whole)-1], api.ErrForm)
		refused(t, "a byte more", append(bytes.Clone(whole), 0), api.ErrForm)
		refused(t, "twice", append(bytes.Clone(whole), whole...), api.ErrForm)
	}
	// More than MaxData bytes stated, and not there.
	refused(t, "201 stated", laid(3, 201, filled(200)), api.ErrForm)
	refused(t, "65535 stated", laid(3, 65535, nil), api.ErrForm)
	refused(t, "200 stated, 201 there", laid(3, 200, filled(201)), api.ErrForm)
	// Sixteen bits tell no size of 65536.
	refused(t, "65536 there", laid(3, 65536, filled(65536)), api.ErrForm)
}

// TestParseWrongChecksum inverts each bit of a cell, and so each of its parts.
func TestParseWrongChecksum(t *testing.T) {
	for _, n := range []int{0, 1, 5, 200} {
		whole := laid(0x01020304, n, filled(n))
		for i := range 8 * len(whole) {
			p := bytes.Clone(whole)
			p[i/8] ^= 0x80 >> (i % 8)
			want := api.ErrCrc
			if i/8 == 4 || i/8 == 5 {
				want = api.ErrForm // it states another size now
			}
			refused(t, "a bit inverted", p, want)
		}
	}
	p := made(1, "AB")
	p[len(p)-2], p[len(p)-1] = p[len(p)-1], p[len(p)-2]
	refused(t, "the checksum's bytes exchanged", p, api.ErrCrc)
	refused(t, "zeros", make([]byte, 8), api.ErrCrc)
	// The size is summed, too: a cell that lost a byte and says so isn't right.
	p = append(made(1, "AB")[:7], made(1, "AB")[8:]...)
	p[5] = 1
	refused(t, "a byte taken out", p, api.ErrCrc)
}

func TestParseTooLong(t *testing.T) {
	for _, n := range []int{201, 202, 255, 256, 257, 456, 4000, 65535} {
		p := laid(1, n, filled(n))
		refused(t, "too long", p, api.ErrLong)
		for _, at := range []int{0, 3, 6, 100, len(p) - 3, len(p) - 2, len(p) - 1} {
			refused(t, "too long, a wrong checksum", spoilt(p, at), api.ErrCrc)
		}
		refused(t, "too long, a byte fewer", p[:len(p)-1], api.ErrForm)
		refused(t, "too long, a byte more", append(bytes.Clone(p), 0), api.ErrForm)
	}
	parses(t, "200 bytes", laid(1, 200, filled(200)), 1, filled(200), api.OK)
}

func TestGood(t *testing.T) {
	bad := spoilt(made(9, "x"), 0)
	right := made(9, "x")
	long := laid(9, 201, filled(201))
	for _, x := range []struct {
		l    [][]byte
		want bits.Set
	}{
		{nil, 0}, {[][]byte{}, 0}, {[][]byte{right}, 1}, {[][]byte{bad}, 0}, {[][]byte{nil}, 0}, {[][]byte{{}, right}, 2},
		{[][]byte{right, bad, right}, bits.Of(0, 2)}, {[][]byte{bad, right, bad, nil, right, long}, bits.Of(1, 4)},
		{[][]byte{right, right, right}, bits.Of(0, 1, 2)}, {[][]byte{long, long[:9], right[:7]}, 0},
	} {
		if got := cell.Good(x.l...); got != x.want {
			t.Errorf("Good of %d cells = %s, want %s", len(x.l), got.Text(), x.want.Text())
		}
	}
}

// TestGoodOfMany: each place of the first MaxUnits, and those behind them.
func TestGoodOfMany(t *testing.T) {
	for _, n := range []int{api.MaxUnits - 1, api.MaxUnits, api.MaxUnits + 1, 2 * api.MaxUnits, 100} {
		l := make([][]byte, n)
		if got := cell.Good(l...); got != 0 {
			t.Errorf("of %d empty cells: %s", n, got.Text())
		}
		for i := range l {
			l[i] = made(uint32(i), "x")
			want := bits.Of(i)
			if got := cell.Good(l...); got != want {
				t.Errorf("only cell %d of %d: %s", i, n, got.Text())
			}
			l[i] = nil
		}
		for i := range l {
			l[i] = made(1, "x")
		}
		if got := cell.Good(l...); got.Count() != min(n, api.MaxUnits) {
			t.Errorf("all of %d cells: %s", n, got.Text())
		}
		l[7] = spoilt(l[7], 6)
		if got := cell.Good(l...); got.Count() != min(n, api.MaxUnits)-1 || got.Has(7) {
			t.Errorf("all of %d cells but 7: %s", n, got.Text())
		}
	}
}

// votes checks what Vote gives, zero values among it.
func votes(t *testing.T, name string, l [][]byte, seq uint32, data string, err api.Errno) {
	t.Helper()
	gotSeq, got, gotErr := cell.Vote(l...)
	if gotSeq != seq || string(got) != data || gotErr != err {
		t.Errorf("%s: Vote = %d, %q, %d, want %d, %q, %d", name, gotSeq, got, gotErr, seq, data, err)
	}
	if err != api.OK && got != nil {
		t.Errorf("%s: data beside an error", name)
	}
}

func TestExample(t *testing.T) {
	l := [][]byte{made(5, "a"), made(5, "a"), made(6, "b")}
	votes(t, "5, 5, 6", l, 6, "b", api.OK)
	for _, one := range l {
		votes(t, "one alone", [][]byte{one}, 0, "", api.ErrNone)
	}
}

func TestVoteOfTooFew(t *testing.T) {
	right, bad := made(last, "a"), spoilt(made(7, "b"), 6)
	for _, l := range [][][]byte{
		nil, {}, {nil}, {nil, {}, nil}, {right}, {bad}, {bad, bad, bad}, {right, bad}, {bad, right}, {right, nil, nil}, {nil, right, bad}, {bad, nil, right},
		{right, right[:len(right)-1]}, {right, laid(8, 201, filled(201)), laid(8, 201, filled(201))},
	} {
		votes(t, "too few", l, 0, "", api.ErrNone)
	}
	l := make([][]byte, 100)
	for i := range l {
		l[i] = right
		votes(t, "one of a hundred", l, 0, "", api.ErrNone)
		l[i] = bad
	}
	votes(t, "none of a hundred", l, 0, "", api.ErrNone)
}

func TestVote(t *testing.T) {
	bad := spoilt(made(last, "z"), 0)
	for _, x := range []struct {
		l    [][]byte
		seq  uint32
		data string
	}{
		{[][]byte{made(1, "a"), made(2, "b")}, 2, "b"}, {[][]byte{made(2, "b"), made(1, "a")}, 2, "b"},
		// Equal numbers: the first, not what most have.
		{[][]byte{made(4, "a"), made(4, "b")}, 4, "a"}, {[][]byte{made(4, "b"), made(4, "a")}, 4, "b"},
		{[][]byte{made(4, "a"), made(4, "b"), made(4, "b")}, 4, "a"}, {[][]byte{made(3, "x"), made(4, "a"), made(4, "b")}, 4, "a"},
		{[][]byte{made(4, "a"), made(3, "x"), made(3, "x"), made(4, "b")}, 4, "a"}, {[][]byte{bad, made(4, "a"), bad, made(4, "b")}, 4, "a"},
		// The ends of the numbers: 0 is a number as any other, and no sign counts.
		{[][]byte{made(0, "a"), made(0, "b")}, 0, "a"}, {[][]byte{made(0, "a"), made(1, "b")}, 1, "b"}, {[][]byte{made(0, "a"), made(last, "b")}, last, "b"},
		{[][]byte{made(last, "a"), made(0, "b")}, last, "a"}, {[][]byte{made(last-1, "a"), made(last, "b")}, last, "b"}, {[][]byte{made(last, "a"), made(last, "b")}, last, "a"},
		{[][]byte{made(1<<31-1, "a"), made(1<<31, "b")}, 1 << 31, "b"}, {[][]byte{made(255, "a"), made(256, "b")}, 256, "b"}, {[][]byte{made(0x01000000, "a"), made(0x00ffffff, "b")}, 0x01000000, "a"},
		// What can't be parsed has no say, whatever its number is.
		{[][]byte{bad, made(1, "a"), made(0, "b")}, 1, "a"}, {[][]byte{made(1, "a"), made(1, "b"), bad}, 1, "a"}, {[][]byte{nil, made(0, "a"), nil, made(0, "b")}, 0, "a"},
		{[][]byte{laid(last, 201, filled(201)), made(1, "a"), made(2, "b")}, 2, "b"},
		// Cells without data, and with as much as there may be.
		{[][]byte{made(1, ""), made(2, "")}, 2, ""}, {[][]byte{made(1, "a"), made(2, "")}, 2, ""},
		{[][]byte{made(9, string(filled(200))), made(2, "b")}, 9, string(filled(200))},
	} {
		votes(t, "ordinary", x.l, x.seq, x.data, api.OK)
	}
	same := made(3, "same")
	votes(t, "one cell twice", [][]byte{same, same}, 3, "same", api.OK)
}

// TestVoteInEachPlace: the greatest number, and two among many that can't be
// parsed, lie in each place in turn, also beyond MaxUnits.
func TestVoteInEachPlace(t *testing.T) {
	for _, n := range []int{2, 3, 16, 17, 40} {
		full, empty := make([][]byte, n), make([][]byte, n)
		for i := range n {
			full[i] = made(uint32(i%3), "low")
			empty[i] = spoilt(made(last, "bad"), i%9)
		}
		for i := range n {
			before := full[i]
			full[i] = made(100, "top")
			votes(t, "the greatest", full, 100, "top", api.OK)
			full[i] = before
			for j := range i {
				inTurn(t, empty, j, i)
			}
		}
	}
}

// inTurn lays two cells in these places, and takes them out again.
func inTurn(t *testing.T, l [][]byte, j, i int) {
	t.Helper()
	one, two := l[j], l[i]
	l[j], l[i] = made(0, "j"), made(0, "i")
	votes(t, "equal ones", l, 0, "j", api.OK)
	l[i] = made(1, "i")
	votes(t, "the later one", l, 1, "i", api.OK)
	l[j] = made(2, "j")
	votes(t, "the earlier one", l, 2, "j", api.OK)
	l[j], l[i] = one, two
}

func TestNewer(t *testing.T) {
	bad := spoilt(made(last, "x"), 5)
	long := laid(last, 201, filled(201))
	for _, x := range []struct {
		name string
		a, b []byte
		want bool
	}{
		{"greater", made(6, "a"), made(5, "b"), true}, {"lower", made(5, "a"), made(6, "b"), false},
		{"equal", made(5, "a"), made(5, "a"), false}, {"equal, other data", made(5, "b"), made(5, "a"), false}, {"equal, at 0", made(0, "a"), made(0, "b"), false}, {"equal, at the end", made(last, "a"), made(last, "b"), false},
		{"from 0 on", made(1, "a"), made(0, "b"), true}, {"0 after 1", made(0, "a"), made(1, "b"), false}, {"the ends", made(last, "a"), made(0, "b"), true}, {"no wrapping round", made(0, "a"), made(last, "b"), false},
		{"the last two", made(last, ""), made(last-1, ""), true}, {"the last two, exchanged", made(last-1, ""), made(last, ""), false},
		{"no sign", made(1<<31, "a"), made(1<<31-1, "b"), true}, {"no sign, exchanged", made(1<<31-1, "a"), made(1<<31, "b"), false}, {"all four bytes", made(256, "a"), made(255, "b"), true},
		{"b nil", made(0, ""), nil, true}, {"b empty", made(0, ""), []byte{}, true}, {"b spoilt", made(0, "a"), bad, true}, {"b too long", made(0, "a"), long, true}, {"b cut", made(0, "a"), made(9, "b")[:8], true},
		{"a nil", nil, made(0, ""), false}, {"a spoilt", bad, made(0, "b"), false}, {"a too long", long, made(0, "b"), false}, {"a cut", made(9, "a")[:8], made(0, "b"), false},
		{"neither", nil, nil, false}, {"neither, spoilt", bad, bad, false}, {"neither, one nil", bad, nil, false}, {"neither, the other nil", nil, bad, false}, {"neither, too long", long, bad, false},
	} {
		if got := cell.Newer(x.a, x.b); got != x.want {
			t.Errorf("%s: Newer = %t", x.name, got)
		}
	}
}

// TestMakeMemory: what was handed in and what was handed out is the caller's.
func TestMakeMemory(t *testing.T) {
	whole := []byte("data and more")
	data := whole[:4]
	one, _ := cell.Make(1, data)
	two, _ := cell.Make(1, data)
	want := made(1, "data")
	overwrite(one)
	if string(whole) != "data and more" || !bytes.Equal(two, want) {
		t.Errorf("results share memory: %q, %x", whole, two)
	}
	overwrite(whole)
	if !bytes.Equal(two, want) {
		t.Errorf("the argument was kept: %x", two)
	}
	again, _ := cell.Make(1, []byte("data"))
	if !bytes.Equal(again, want) {
		t.Errorf("an earlier result shows: %x", again)
	}
}

func TestParseMemory(t *testing.T) {
	for _, n := range []int{0, 1, 4, 200} {
		p := append(laid(1, n, filled(n)), "spare"...)[:n+8]
		before := bytes.Clone(p[:cap(p)])
		_, one, _ := cell.Parse(p)
		_, two, _ := cell.Parse(p)
		overwrite(one)
		if !bytes.Equal(p[:cap(p)], before) || !bytes.Equal(two, filled(n)) {
			t.Errorf("%d bytes: results share memory", n)
		}
		overwrite(p)
		if !bytes.Equal(two, filled(n)) {
			t.Errorf("%d bytes: the argument was kept", n)
		}
	}
}

func TestVoteMemory(t *testing.T) {
	cells := func() [][]byte {
		return [][]byte{made(1, "old"), append(made(2, "new"), "spare"...)[:11], made(2, "other"), []byte("bad")}
	}
	l := cells()
	var before [][]byte
	for _, p := range l {
		before = append(before, bytes.Clone(p[:cap(p)]))
	}
	_, one, _ := cell.Vote(l...)
	_, two, _ := cell.Vote(l...)
	overwrite(one)
	cell.Good(l...)
	cell.Newer(l[0], l[1])
	for i, p := range l {
		if !bytes.Equal(p[:cap(p)], before[i]) {
			t.Errorf("cell %d was changed", i)
		}
	}
	if string(two) != "new" {
		t.Errorf("results share memory: %q", two)
	}
	for i := range l {
		overwrite(l[i])
		l[i] = nil
	}
	if string(two) != "new" {
		t.Errorf("an argument was kept: %q", two)
	}
	// Nothing of earlier calls shows.
	votes(t, "again", cells(), 2, "new", api.OK)
	votes(t, "of none", nil, 0, "", api.ErrNone)
}

// TestAnyBytes: nothing panics, and what Parse, Good, Vote and Newer tell of
// any bytes fits together.
func TestAnyBytes(t *testing.T) {
	n := uint32(1)
	draw := func(below int) int {
		n = n*1664525 + 1013904223
		return int(n>>8) % below
	}
	parsed := 0
	for range 20000 {
		p := filled(draw(24))
		for i := range p {
			p[i] = byte(draw(3))
		}
		if draw(2) == 0 && len(p) >= 6 {
			p = laid(uint32(draw(5)), draw(len(p)), p[6:])
		}
		seq, data, err := cell.Parse(p)
		right := err == api.OK
		if right {
			parsed++
		}
		if back, _ := cell.Make(seq, data); right != bytes.Equal(back, p) {
			t.Fatalf("%x: Parse tells %d, %x, %d", p, seq, data, err)
		}
		if cell.Good(p) == 1 != right || cell.Newer(p, nil) != right || cell.Newer(nil, p) {
			t.Fatalf("%x: Good or Newer tells otherwise than Parse, %d", p, err)
		}
		if votedSeq, voted, voteErr := cell.Vote(p, p); (voteErr == api.OK) != right || votedSeq != seq || !bytes.Equal(voted, data) {
			t.Fatalf("%x: Vote tells %d, %x, %d, Parse %d", p, votedSeq, voted, voteErr, err)
		}
	}
	if parsed < 100 {
		t.Errorf("only %d were cells", parsed)
	}
}
