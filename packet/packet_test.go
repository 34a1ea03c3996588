package packet_test

import (
	"bytes"
	"testing"

	"aerie/api"
	"aerie/packet"
)

// checked is p with its checksum, worked out bit by bit and not by the
// project's package.
func checked(p []byte) []byte {
	sum := 0xffff
	for _, b := range p {
		for bit := 7; bit >= 0; bit-- {
			out := sum>>15 ^ int(b>>bit)&1
			sum = sum << 1 & 0xffff
			if out == 1 {
				sum ^= 0x1021
			}
		}
	}
	return append(bytes.Clone(p), byte(sum>>8), byte(sum))
}

// headed is a packet with these two numbers in front, which states that so
// many bytes follow, whatever its data.
func headed(first, second, follow int, data []byte) []byte {
	p := []byte{byte(first >> 8), byte(first), byte(second >> 8), byte(second), byte((follow - 1) >> 8), byte(follow - 1)}
	return checked(append(p, data...))
}

// laid is a packet as the document tells it.
func laid(command bool, apid, count int, data []byte) []byte {
	first := 1<<11 | apid
	if command {
		first |= 1 << 12
	}
	return headed(first, 3<<14|count, len(data)+2, data)
}

// filled are n bytes, the same ones in each run.
func filled(n int) []byte {
	p := make([]byte, n)
	for i := range p {
		p[i] = byte(i*7 + n)
	}
	return p
}

// inverted is p with a bit inverted.
func inverted(p []byte, bit int) []byte {
	q := bytes.Clone(p)
	q[bit/8] ^= 0x80 >> (bit % 8)
	return q
}

// overwrite overwrites a list, and what capacity it has to spare.
func overwrite(p []byte) {
	p = p[:cap(p)]
	for i := range p {
		p[i] = 0xee
	}
}

// like holds two packets against each other without the package's help.
func like(a, b packet.Packet) bool {
	return a.Command == b.Command && a.Apid == b.Apid && a.Count == b.Count && string(a.Data) == string(b.Data)
}

// encodes checks what Bytes gives, nothing beside an error, and that the data
// stays as it was.
func encodes(t *testing.T, name string, p packet.Packet, want []byte, err api.Errno) {
	t.Helper()
	before := bytes.Clone(p.Data)
	got, gotErr := p.Bytes()
	if !bytes.Equal(got, want) || gotErr != err {
		t.Errorf("%s: Bytes = %x, %d, want %x, %d", name, got, gotErr, want, err)
	}
	if err != api.OK && len(got) != 0 {
		t.Errorf("%s: bytes beside an error", name)
	}
	if !bytes.Equal(p.Data, before) {
		t.Errorf("%s: the data was changed", name)
	}
}

// parses checks that p is parsed as this packet, and stays as it was.
func parses(t *testing.T, name string, p []byte, want packet.Packet) {
	t.Helper()
	before := bytes.Clone(p)
	got, err := packet.Parse(p)
	if !like(got, want) || err != api.OK {
		t.Errorf("%s: Parse(%x) = %v, %d, want %v", name, p, got, err, want)
	}
	if !bytes.Equal(p, before) {
		t.Errorf("%s: the argument was changed", name)
	}
}

// refused checks that Parse gives this error and a zero value.
func refused(t *testing.T, name string, p []byte, err api.Errno) {
	t.Helper()
	before := bytes.Clone(p)
	got, gotErr := packet.Parse(p)
	if gotErr != err {
		t.Errorf("%s: Parse(%x) = %d, want %d", name, p, gotErr, err)
	}
	if !like(got, packet.Packet{}) {
		t.Errorf("%s: a packet beside an error: %v", name, got)
	}
	if !bytes.Equal(p, before) {
		t.Errorf("%s: the argument was changed", name)
	}
}

// TestLiterally: packets written out byte by byte, the chapter's example first.
func TestLiterally(t *testing.T) {
	for _, x := range []struct {
		p    packet.Packet
		want string
	}{
		{packet.Packet{Command: true, Apid: 5, Count: 1, Data: []byte{0x2a}}, "\x18\x05\xc0\x01\x00\x02\x2a\xb0\x5f"},
		{packet.Packet{Data: []byte{0}}, "\x08\x00\xc0\x00\x00\x02\x00\x37\xb9"},
		{packet.Packet{Apid: 2047, Data: []byte{0}}, "\x0f\xff\xc0\x00\x00\x02\x00\x7a\x42"},
		{packet.Packet{Apid: 0x102, Count: 0x1234, Data: []byte("ABCD")}, "\x09\x02\xd2\x34\x00\x05ABCD\x3b\x35"},
	} {
		encodes(t, "literal", x.p, []byte(x.want), api.OK)
		parses(t, "literal", []byte(x.want), x.p)
	}
}

// TestNoData: the packet has eight bytes, which Parse doesn't take.
func TestNoData(t *testing.T) {
	for _, none := range [][]byte{nil, {}} {
		encodes(t, "none", packet.Packet{Data: none}, []byte("\x08\x00\xc0\x00\x00\x01\xa0\xd7"), api.OK)
		encodes(t, "none", packet.Packet{Command: true, Apid: 2047, Count: 16383, Data: none}, []byte("\x1f\xff\xff\xff\x00\x01\x1f\xd9"), api.OK)
	}
	refused(t, "none", []byte("\x08\x00\xc0\x00\x00\x01\xa0\xd7"), api.ErrForm)
}

func TestBytesAndParse(t *testing.T) {
	for n := range api.MaxData + 1 {
		for _, apid := range []int{0, 1, 255, 256, 0x555, 2046, 2047} {
			for _, count := range []int{0, 1, 255, 256, 0x2aaa, 16382, 16383} {
				command := (n+apid+count)%2 == 0
				p := packet.Packet{Command: command, Apid: uint16(apid), Count: uint16(count), Data: filled(n)}
				want := laid(command, apid, count, filled(n))
				encodes(t, "ordinary", p, want, api.OK)
				if n > 0 {
					parses(t, "ordinary", want, p)
				}
			}
		}
	}
}

func TestEachApidAndCount(t *testing.T) {
	for i := range 65536 {
		err := api.OK
		if i > 2047 {
			err = api.ErrArg
		}
		each(t, "each Apid", packet.Packet{Apid: uint16(i), Count: uint16(i % 16384), Data: []byte{1}}, err)
		err = api.OK
		if i > 16383 {
			err = api.ErrArg
		}
		each(t, "each Count", packet.Packet{Command: true, Apid: uint16(i % 2048), Count: uint16(i), Data: []byte{1}}, err)
	}
}

// each checks Bytes of a packet with one byte of data, and Parse of them.
func each(t *testing.T, name string, p packet.Packet, err api.Errno) {
	t.Helper()
	if err != api.OK {
		encodes(t, name, p, nil, err)
		return
	}
	want := laid(p.Command, int(p.Apid), int(p.Count), p.Data)
	encodes(t, name, p, want, api.OK)
	parses(t, name, want, p)
}

func TestBytesErrors(t *testing.T) {
	for _, x := range []struct {
		apid, count uint16
		size        int
		err         api.Errno
	}{
		{2047, 16383, 200, api.OK}, {2048, 16383, 200, api.ErrArg}, {2047, 16384, 200, api.ErrArg}, {2048, 16384, 200, api.ErrArg},
		{2047, 16383, 201, api.ErrLong}, {2048, 16383, 201, api.ErrArg}, {2047, 16384, 201, api.ErrArg}, {2048, 16384, 201, api.ErrArg},
		{0, 0, 201, api.ErrLong}, {0, 0, 202, api.ErrLong}, {0, 0, 256, api.ErrLong}, {0, 0, 65534, api.ErrLong}, {0, 0, 65535, api.ErrLong}, {0, 0, 65536, api.ErrLong}, {0, 0, 65536 + 10, api.ErrLong},
		{65535, 0, 0, api.ErrArg}, {0, 65535, 0, api.ErrArg}, {4096, 0, 1, api.ErrArg}, {0, 32768, 1, api.ErrArg}, {65535, 65535, 70000, api.ErrArg},
	} {
		for _, command := range []bool{false, true} {
			p := packet.Packet{Command: command, Apid: x.apid, Count: x.count, Data: filled(x.size)}
			var want []byte
			if x.err == api.OK {
				want = laid(command, int(x.apid), int(x.count), p.Data)
			}
			encodes(t, "errors", p, want, x.err)
		}
	}
}

// TestParseSizes: fewer bytes than a packet has, and fewer and more than it
// states, each time with the right checksum of what there is.
func TestParseSizes(t *testing.T) {
	refused(t, "nil", nil, api.ErrForm)
	refused(t, "empty", []byte{}, api.ErrForm)
	for n := range 8 {
		refused(t, "cut", laid(true, 5, 1, []byte{0x2a})[:n], api.ErrForm)
		refused(t, "zeros", make([]byte, n), api.ErrForm)
	}
	refused(t, "eight bytes", laid(true, 5, 1, nil), api.ErrForm)
	parses(t, "nine bytes", laid(true, 5, 1, []byte{9}), packet.Packet{Command: true, Apid: 5, Count: 1, Data: []byte{9}})
	for n := range 40 {
		for follow := range 50 {
			p := headed(0x1805, 0xc001, follow+1, filled(n))
			if n == 0 || n+2 != follow+1 {
				refused(t, "another size", p, api.ErrForm)
			}
		}
	}
	for n := 1; n <= api.MaxData; n++ {
		refused(t, "one too many", headed(0x1805, 0xc001, n+1, filled(n)), api.ErrForm)
		refused(t, "one too few", headed(0x1805, 0xc001, n+3, filled(n)), api.ErrForm)
		refused(t, "256 too few", headed(0x1805, 0xc001, n+2+256, filled(n)), api.ErrForm)
		p := laid(true, 5, 1, filled(n))
		refused(t, "cut", p[:len(p)-1], api.ErrForm)
		refused(t, "lengthened", append(p, 0), api.ErrForm)
	}
}

// TestParseEachBit inverts each bit of packets: those of the size are ErrForm,
// for there are fewer or more bytes then, all others ErrCrc.
func TestParseEachBit(t *testing.T) {
	for _, n := range []int{1, 2, 30, api.MaxData} {
		p := laid(n%2 == 0, 0x2d3, 0x1a5b, filled(n))
		for bit := range 8 * len(p) {
			err := api.ErrCrc
			if bit/8 == 4 || bit/8 == 5 {
				err = api.ErrForm
			}
			refused(t, "a bit inverted", inverted(p, bit), err)
		}
	}
}

// TestParseFixedBits: each value of the first two numbers, with the right
// checksum.
func TestParseFixedBits(t *testing.T) {
	for i := range 65536 {
		data := []byte{byte(i)}
		p := headed(i, 0xc000|i&0x3fff, 3, data)
		if i>>13 != 0 || i>>11&1 != 1 {
			refused(t, "a fixed bit of the first number", p, api.ErrForm)
		} else {
			parses(t, "the first number", p, packet.Packet{Command: i>>12 == 1, Apid: uint16(i & 0x7ff), Count: uint16(i & 0x3fff), Data: data})
		}
		p = headed(0x0800|i&0x17ff, i, 3, data)
		if i>>14 != 3 {
			refused(t, "a fixed bit of the second number", p, api.ErrForm)
		} else {
			parses(t, "the second number", p, packet.Packet{Command: i>>12&1 == 1, Apid: uint16(i & 0x7ff), Count: uint16(i & 0x3fff), Data: data})
		}
	}
}

// TestParseOrder: which error comes first where several apply.
func TestParseOrder(t *testing.T) {
	const good, count = 0x1805, 0xc001
	long := filled(api.MaxData + 1)
	last := func(p []byte) []byte { return inverted(p, 8*len(p)-1) }
	for _, fixed := range []int{0x3805, 0x5805, 0x9805, 0x1005, 0xf005} {
		refused(t, "fixed bit", headed(fixed, count, 3, []byte{1}), api.ErrForm)
		refused(t, "fixed bit, long", headed(fixed, count, len(long)+2, long), api.ErrForm)
		refused(t, "fixed bit, checksum", last(headed(fixed, count, 3, []byte{1})), api.ErrCrc)
		refused(t, "fixed bit, checksum, long", last(headed(fixed, count, len(long)+2, long)), api.ErrCrc)
		refused(t, "fixed bit, checksum, size", last(headed(fixed, count, 4, []byte{1})), api.ErrForm)
	}
	for _, fixed := range []int{0x8001, 0x4001, 0x0001} {
		refused(t, "count's fixed bit", headed(good, fixed, 3, []byte{1}), api.ErrForm)
		refused(t, "count's fixed bit, long", headed(good, fixed, len(long)+2, long), api.ErrForm)
		refused(t, "count's fixed bit, checksum", last(headed(good, fixed, 3, []byte{1})), api.ErrCrc)
	}
	refused(t, "checksum", last(headed(good, count, 3, []byte{1})), api.ErrCrc)
	refused(t, "checksum, long", last(headed(good, count, len(long)+2, long)), api.ErrCrc)
	refused(t, "checksum, size", last(headed(good, count, 4, []byte{1})), api.ErrForm)
	refused(t, "long, size", headed(good, count, len(long)+3, long), api.ErrForm)
	refused(t, "eight bytes, checksum", last(laid(true, 5, 1, nil)), api.ErrForm)
}

// TestParseLong: all else is right.
func TestParseLong(t *testing.T) {
	p := packet.Packet{Command: true, Apid: 5, Count: 1, Data: filled(api.MaxData)}
	parses(t, "MaxData bytes", laid(true, 5, 1, p.Data), p)
	for _, n := range []int{api.MaxData + 1, api.MaxData + 2, 254, 255, 256, 1000, 65533, 65534} {
		refused(t, "too many bytes", laid(true, 5, 1, filled(n)), api.ErrLong)
	}
	// The size that is stated doesn't go beyond two bytes.
	for _, n := range []int{65535, 65536, 65536 + 10} {
		refused(t, "more than can be stated", laid(true, 5, 1, filled(n)), api.ErrForm)
	}
}

// TestMemory: what was handed in and what was handed out is the caller's.
func TestMemory(t *testing.T) {
	whole := []byte("data and what there is to spare")
	p := packet.Packet{Apid: 7, Count: 9, Data: whole[:4]}
	want := laid(false, 7, 9, []byte("data"))
	one, _ := p.Bytes()
	two, _ := p.Bytes()
	overwrite(one)
	if string(whole) != "data and what there is to spare" || !bytes.Equal(two, want) {
		t.Errorf("Bytes shares memory: %q, %x", whole, two)
	}
	overwrite(whole)
	if !bytes.Equal(two, want) {
		t.Errorf("Bytes kept the data: %x", two)
	}
	a, _ := packet.Parse(two)
	b, _ := packet.Parse(two)
	overwrite(a.Data)
	if !bytes.Equal(two, want) || string(b.Data) != "data" {
		t.Errorf("Parse shares memory: %x, %q", two, b.Data)
	}
	overwrite(two)
	if string(b.Data) != "data" {
		t.Errorf("Parse kept its argument: %q", b.Data)
	}
}

// splits checks what Split gives, that all of it together is p, and that p
// stays as it was.
func splits(t *testing.T, name string, p []byte, want [][]byte, rest []byte) {
	t.Helper()
	before := bytes.Clone(p)
	got, gotRest := packet.Split(p)
	if len(got) != len(want) || !bytes.Equal(gotRest, rest) {
		t.Fatalf("%s: Split(%x) = %x, %x, want %x, %x", name, p, got, gotRest, want, rest)
	}
	for i := range want {
		if !bytes.Equal(got[i], want[i]) {
			t.Errorf("%s: packet %d is %x, want %x", name, i, got[i], want[i])
		}
	}
	if joined := append(bytes.Join(got, nil), gotRest...); !bytes.Equal(joined, p) || !bytes.Equal(p, before) {
		t.Errorf("%s: %x became %x, and %x", name, before, p, joined)
	}
}

// rests are bytes in which there is no whole packet.
func rests() [][]byte {
	p := laid(true, 5, 1, filled(3))
	l := [][]byte{nil, {}, make([]byte, 5), make([]byte, 6), {255, 255, 255, 255, 255, 255}, {1, 2, 3, 4, 0, 7, 1, 2, 3, 4, 5, 6, 7}}
	for n := range p {
		l = append(l, p[:n])
	}
	// One byte fewer than can be stated at most.
	most := make([]byte, 65541)
	most[4], most[5] = 255, 255
	return append(l, most)
}

func TestSplit(t *testing.T) {
	least := []byte{1, 2, 3, 4, 0, 0, 7} // as few bytes as can be stated
	most := append([]byte{0, 0, 0, 0, 255, 255}, make([]byte, 65536)...)
	several := [][]byte{laid(true, 5, 1, []byte{1}), laid(false, 6, 2, filled(api.MaxData)), least, laid(true, 1, 1, nil), most, laid(false, 0, 0, filled(300)), make([]byte, 7), least}
	for _, rest := range rests() {
		splits(t, "a rest alone", rest, nil, rest)
		for _, p := range several {
			splits(t, "one", append(bytes.Clone(p), rest...), [][]byte{p}, rest)
		}
		for n := range several {
			splits(t, "several", append(bytes.Join(several[:n], nil), rest...), several[:n], rest)
			splits(t, "several", append(bytes.Join(several[n:], nil), rest...), several[n:], rest)
		}
	}
}

// TestSplitIsNotParse: a packet is as long as it states, whatever its bits and
// its checksum.
func TestSplitIsNotParse(t *testing.T) {
	p := laid(true, 5, 1, filled(20))
	for bit := range 8 * len(p) {
		if bit/8 != 4 && bit/8 != 5 {
			q := inverted(p, bit)
			splits(t, "a bit inverted", append(bytes.Clone(q), p...), [][]byte{q, p}, nil)
		}
	}
	// Of what follows a packet that states another size nothing is known.
	short := headed(0x1805, 0xc001, 3, filled(20))
	splits(t, "another size stated", short, [][]byte{short[:9]}, short[9:])
}

func TestSplitMany(t *testing.T) {
	var want [][]byte
	for i := range 3000 {
		want = append(want, laid(i%2 == 0, i%2048, i, filled(i%40)))
	}
	splits(t, "many", append(bytes.Join(want, nil), 1, 2, 3), want, []byte{1, 2, 3})
	zeros := make([]byte, 7*1000+6)
	want = nil
	for range 1000 {
		want = append(want, make([]byte, 7))
	}
	splits(t, "zeros", zeros, want, make([]byte, 6))
}

// TestSplitMemory: what is handed out shares no memory with what was handed
// in, nor with another part of it, nor with an earlier result.
func TestSplitMemory(t *testing.T) {
	a, b, rest := laid(true, 5, 1, filled(9)), laid(false, 6, 2, filled(4)), []byte{1, 2, 3}
	p := append(append(bytes.Clone(a), b...), rest...)
	before := bytes.Clone(p)
	for spoilt := range 3 {
		got, gotRest := packet.Split(p)
		again, againRest := packet.Split(p)
		parts := [][]byte{got[0], got[1], gotRest}
		overwrite(parts[spoilt])
		if !bytes.Equal(p, before) {
			t.Fatalf("part %d shares memory with the argument", spoilt)
		}
		for i, want := range [][]byte{a, b, rest} {
			if i != spoilt && !bytes.Equal(parts[i], want) {
				t.Errorf("part %d shares memory with part %d", i, spoilt)
			}
			if later := [][]byte{again[0], again[1], againRest}[i]; !bytes.Equal(later, want) {
				t.Errorf("part %d of two results shares memory", i)
			}
		}
		got[0] = nil
		if again[0] == nil {
			t.Error("two lists share memory")
		}
	}
	got, gotRest := packet.Split(p)
	overwrite(p)
	if !bytes.Equal(got[0], a) || !bytes.Equal(got[1], b) || !bytes.Equal(gotRest, rest) {
		t.Error("Split kept its argument")
	}
}

func TestSame(t *testing.T) {
	ordinary := func() packet.Packet {
		return packet.Packet{Command: true, Apid: 5, Count: 1, Data: []byte{1, 2, 3}}
	}
	l := []packet.Packet{
		ordinary(),
		{Command: false, Apid: 5, Count: 1, Data: []byte{1, 2, 3}},
		{Command: true, Apid: 4, Count: 1, Data: []byte{1, 2, 3}},
		{Command: true, Apid: 5 + 2048, Count: 1, Data: []byte{1, 2, 3}},
		{Command: true, Apid: 5, Count: 2, Data: []byte{1, 2, 3}},
		{Command: true, Apid: 5, Count: 1 + 16384, Data: []byte{1, 2, 3}},
		{Command: true, Apid: 5, Count: 1, Data: []byte{1, 2, 4}},
		{Command: true, Apid: 5, Count: 1, Data: []byte{0, 2, 3}},
		{Command: true, Apid: 5, Count: 1, Data: []byte{1, 2}},
		{Command: true, Apid: 5, Count: 1, Data: []byte{1, 2, 3, 0}},
		{Command: true, Apid: 5, Count: 1},
		{Command: true, Apid: 1, Count: 5, Data: []byte{1, 2, 3}},
		{},
	}
	for i, a := range l {
		for j, b := range l {
			if got := packet.Same(a, b); got != (i == j) {
				t.Errorf("Same(%v, %v) = %t", a, b, got)
			}
		}
	}
	if !packet.Same(ordinary(), ordinary()) {
		t.Error("data in two places")
	}
	none, empty := packet.Packet{Apid: 3}, packet.Packet{Apid: 3, Data: []byte{}}
	if !packet.Same(none, empty) || !packet.Same(empty, none) {
		t.Error("data nil and empty")
	}
}

func TestNext(t *testing.T) {
	for _, x := range []struct{ count, want uint16 }{
		{0, 1}, {1, 2}, {255, 256}, {8191, 8192}, {16381, 16382}, {16382, 16383}, {16383, 0}, {16384, 1}, {16385, 2}, {32767, 0}, {32768, 1}, {49151, 0}, {65534, 16383}, {65535, 0},
	} {
		if got := packet.Next(x.count); got != x.want {
			t.Errorf("Next(%d) = %d, want %d", x.count, got, x.want)
		}
	}
	for i := range 65536 {
		if got := packet.Next(uint16(i)); int(got) != (i+1)%16384 {
			t.Errorf("Next(%d) = %d", i, got)
		}
	}
}
