package verify_test

import (
	"bytes"
	"maps"
	"math"
	"testing"

	"aerie/pus"
	"aerie/verify"
)

// checked is p with its checksum, worked out bit by bit and not by the
// project's package.
func checked(p []byte) []byte {
	sum := 0xffff
	for _, b := range p {
		for bit := 7; bit >= 0; bit-- {
			out := sum>>15 ^ int(b>>bit)&1
			sum = sum << 1 & 0xffff
			if out == 1 {
				sum ^= 0x1021
			}
		}
	}
	return append(bytes.Clone(p), byte(sum>>8), byte(sum))
}

// rechecked is p with its last two bytes made its checksum again.
func rechecked(p []byte) []byte { return checked(p[:len(p)-2]) }

// packed is a command's packet with these data, of the Apid 5, Count 1.
func packed(data []byte) []byte {
	n := len(data) + 1
	return checked(append([]byte{0x18, 5, 0xc0, 1, byte(n >> 8), byte(n)}, data...))
}

// laid is the packet of a command as the document tells it.
func laid(c pus.Command) []byte {
	p := []byte{0x20 + c.Acks, c.Service, c.Sub, byte(c.Source >> 8), byte(c.Source)}
	return packed(append(p, c.Data...))
}

// with is p with another byte at that place.
func with(p []byte, at int, b byte) []byte {
	q := bytes.Clone(p)
	q[at] = b
	return q
}

// inverted is p with a bit inverted.
func inverted(p []byte, bit int) []byte {
	q := bytes.Clone(p)
	q[bit/8] ^= 0x80 >> (bit % 8)
	return q
}

// filled are n bytes, the same ones in each run.
func filled(n int) []byte {
	p := make([]byte, n)
	for i := range p {
		p[i] = byte(i*7 + n)
	}
	return p
}

// overwrite overwrites a list, and what capacity it has to spare.
func overwrite(p []byte) {
	p = p[:cap(p)]
	for i := range p {
		p[i] = 0xee
	}
}

func like(a, b pus.Command) bool {
	return a.Acks == b.Acks && a.Service == b.Service && a.Sub == b.Sub && a.Source == b.Source && string(a.Data) == string(b.Data)
}

// idOf is the first four bytes, zeros behind a shorter list.
func idOf(tc []byte) uint32 {
	p := append(bytes.Clone(tc), 0, 0, 0, 0)
	return ((uint32(p[0])*256+uint32(p[1]))*256+uint32(p[2]))*256 + uint32(p[3])
}

// table holds kinds of three services, one of which has several.
func table() verify.Table {
	return verify.Table{
		{17, 1}:  {0, 0},
		{128, 1}: {1, 1},
		{128, 2}: {1, 3},
		{128, 9}: {0, 195},
		{3, 27}:  {4, 10},
	}
}

// judges checks a verdict: its code, its ID, and its command, none beside
// another code than 0; and that the arguments stay as they were.
func judges(t *testing.T, name string, tc []byte, apid uint16, kinds verify.Table, code byte, c pus.Command) {
	t.Helper()
	before, kindsBefore := bytes.Clone(tc), maps.Clone(kinds)
	for range 2 {
		v := verify.Judge(tc, apid, kinds)
		if v.Code != code {
			t.Errorf("%s: Judge(%x, %d): code %d, want %d", name, tc, apid, v.Code, code)
		}
		if v.ID != idOf(tc) {
			t.Errorf("%s: Judge(%x): ID %08x, want %08x", name, tc, v.ID, idOf(tc))
		}
		if code != 0 {
			c = pus.Command{}
		}
		if !like(v.Command, c) {
			t.Errorf("%s: Judge(%x): command %v, want %v", name, tc, v.Command, c)
		}
	}
	if !bytes.Equal(tc, before) || !maps.Equal(kinds, kindsBefore) {
		t.Errorf("%s: an argument was changed", name)
	}
}

// refuses checks a verdict whose code isn't 0.
func refuses(t *testing.T, name string, tc []byte, code byte) {
	t.Helper()
	judges(t, name, tc, 5, table(), code, pus.Command{})
}

// accepts checks a verdict whose code is 0.
func accepts(t *testing.T, name string, tc []byte, c pus.Command) {
	t.Helper()
	judges(t, name, tc, 5, table(), 0, c)
}

// TestExample: the chapter's, a corrupted packet; and packets written out byte
// by byte.
func TestExample(t *testing.T) {
	ping := checked([]byte("\x18\x05\xc0\x01\x00\x06\x29\x11\x01\x00\x00"))
	accepts(t, "ping", ping, pus.Command{Acks: 9, Service: 17, Sub: 1})
	refuses(t, "corrupted", with(ping, 7, 0x10), 3)
	literal := []byte("\x18\x03\xc0\x00\x00\x06\x29\x11\x01\x00\x00\x05\x12")
	judges(t, "literal", literal, 3, table(), 0, pus.Command{Acks: 9, Service: 17, Sub: 1})
	if v := verify.Judge(literal, 3, table()); v.ID != 0x1803c000 {
		t.Errorf("ID %08x", v.ID)
	}
}

func TestTooShort(t *testing.T) {
	refuses(t, "nil", nil, 2)
	refuses(t, "empty", []byte{}, 2)
	whole := laid(pus.Command{Acks: 9, Service: 17, Sub: 1})
	for n := range len(whole) {
		refuses(t, "cut off", whole[:n], 2)
		refuses(t, "zeros", make([]byte, n), 2)
		if n >= 2 {
			refuses(t, "cut off, with a checksum", rechecked(whole[:n]), 2)
		}
	}
	// As many as they state, but fewer than nine.
	for n := 1; n <= 2; n++ {
		refuses(t, "it states few", checked([]byte{0x18, 5, 0xc0, 1, 0, byte(n - 1)})[:6+n], 2)
	}
	// Nine are enough for a packet, but not for a command.
	refuses(t, "nine bytes", packed([]byte{0x29}), 2)
	refuses(t, "nine bytes, a wrong checksum", inverted(packed([]byte{0x29}), 70), 3)
}

// TestStatedLength: one byte fewer and more than it states, and other numbers.
func TestStatedLength(t *testing.T) {
	whole := laid(pus.Command{Service: 128, Sub: 9, Data: filled(20)})
	accepts(t, "right", whole, pus.Command{Service: 128, Sub: 9, Data: filled(20)})
	refuses(t, "a byte fewer", whole[:len(whole)-1], 2)
	refuses(t, "a byte fewer, with a checksum", rechecked(whole[:len(whole)-1]), 2)
	refuses(t, "a byte more", append(bytes.Clone(whole), 0), 2)
	refuses(t, "a byte more, with a checksum", rechecked(append(bytes.Clone(whole), 0)), 2)
	refuses(t, "a packet more", append(bytes.Clone(whole), whole...), 2)
	for stated := range 65536 {
		p := with(with(whole, 4, byte(stated>>8)), 5, byte(stated))
		if stated == len(whole)-7 {
			continue
		}
		if v := verify.Judge(p, 5, table()); v.Code != 2 {
			t.Fatalf("states %d: code %d", stated, v.Code)
		}
		if stated < 300 || stated%256 == len(whole)-7 {
			refuses(t, "states another length, with a checksum", rechecked(p), 2)
		}
	}
}

// TestMostData: data above MaxData is a wrong length, even with a wrong
// checksum; up to it nothing is wrong.
func TestMostData(t *testing.T) {
	for n := range 196 {
		c := pus.Command{Acks: 1, Service: 128, Sub: 9, Source: 2, Data: filled(n)}
		accepts(t, "each size", laid(c), c)
		refuses(t, "each size, a wrong checksum", inverted(laid(c), 100), 3)
	}
	kinds := verify.Table{{128, 9}: {0, math.MaxInt}}
	for _, n := range []int{196, 197, 200, 201, 245, 246, 256, 500, 65529} {
		p := laid(pus.Command{Acks: 1, Service: 128, Sub: 9, Source: 2, Data: filled(n)})
		judges(t, "above", p, 5, kinds, 2, pus.Command{})
		judges(t, "above, a wrong checksum", inverted(p, 100), 5, kinds, 2, pus.Command{})
		judges(t, "above, another Apid", p, 6, kinds, 2, pus.Command{})
		judges(t, "above, a fixed bit", rechecked(inverted(p, 0)), 5, kinds, 2, pus.Command{})
		judges(t, "above, not as many", rechecked(append(bytes.Clone(p), 0)), 5, kinds, 2, pus.Command{})
	}
	judges(t, "many bytes", make([]byte, 1<<20), 5, kinds, 2, pus.Command{})
}

// TestEachBit: a bit inverted is found by the checksum, or by the length;
// with a right checksum the fixed ones are a wrong length, those of the
// Apid and of the command an illegal Apid, those of Count are any.
func TestEachBit(t *testing.T) {
	c := pus.Command{Acks: 9, Service: 128, Sub: 9, Source: 0x102, Data: []byte{7, 8}}
	whole := laid(c)
	for bit := range len(whole) * 8 {
		p := inverted(whole, bit)
		code := byte(3)
		if bit >= 32 && bit < 48 {
			code = 2
		}
		refuses(t, "a bit", p, code)
		if bit >= 48 {
			continue
		}
		p = rechecked(p)
		switch {
		case bit < 3, bit == 4, bit == 16, bit == 17, bit >= 32:
			refuses(t, "a fixed bit, with a checksum", p, 2)
			judges(t, "a fixed bit, another Apid", p, 6, table(), 2, pus.Command{})
			judges(t, "a fixed bit, no table", p, 5, nil, 2, pus.Command{})
			refuses(t, "a fixed bit, no command", rechecked(with(p, 6, 0x39)), 2)
			refuses(t, "a fixed bit, a wrong checksum", inverted(p, 80), code)
		case bit < 16:
			refuses(t, "the command's bit, or one of the Apid", p, 1)
		default:
			accepts(t, "a bit of Count", p, c)
		}
	}
}

func TestApid(t *testing.T) {
	c := pus.Command{Acks: 9, Service: 17, Sub: 1}
	whole := laid(c)
	for _, asked := range []uint16{0, 1, 4, 5, 6, 255, 256, 261, 2046, 2047, 2048, 2053, 4096, 4101, 32773, 65535} {
		for _, told := range []uint16{0, 1, 5, 6, 255, 256, 261, 2047} {
			p := rechecked(with(with(whole, 0, 0x18|byte(told>>8)), 1, byte(told)))
			code := byte(1)
			if asked == told {
				code = 0
			}
			judges(t, "Apids", p, asked, table(), code, c)
			report := rechecked(with(p, 0, 0x08|byte(told>>8)))
			judges(t, "a report's packet", report, asked, table(), 1, pus.Command{})
			judges(t, "a report's packet, no table", report, asked, nil, 1, pus.Command{})
		}
	}
}

// TestNoCommand: data that are no command are a wrong length, if the Apid is
// right.
func TestNoCommand(t *testing.T) {
	for n := 1; n < 200; n++ {
		data := filled(n)
		for _, first := range []byte{0x00, 0x01, 0x10, 0x1f, 0x20, 0x29, 0x2f, 0x30, 0x39, 0x60, 0xa0, 0xf0} {
			data[0] = first
			code := byte(2)
			if n >= 5 && first>>4 == 2 {
				// It is one, of a service that nobody has.
				data[1] = 200
				code = 4
			}
			refuses(t, "data", packed(data), code)
			judges(t, "data, another Apid", packed(data), 6, table(), 1, pus.Command{})
			judges(t, "data, no table", packed(data), 5, nil, code, pus.Command{})
			report := rechecked(with(packed(data), 0, 0x08))
			refuses(t, "data of a report's packet", report, 1)
			judges(t, "both", report, 6, table(), 1, pus.Command{})
		}
	}
	good := laid(pus.Command{Acks: 9, Service: 17, Sub: 1})
	for first := range 256 {
		p := rechecked(with(good, 6, byte(first)))
		if first/16 == 2 {
			accepts(t, "each first byte", p, pus.Command{Acks: byte(first % 16), Service: 17, Sub: 1})
		} else {
			refuses(t, "each first byte", p, 2)
		}
	}
}

// TestKinds: each sub of the table's services, and many of each other one,
// against tables with the kind, with others of its service, and with others of
// its sub.
func TestKinds(t *testing.T) {
	for i := range 65536 {
		service, sub := byte(i>>8), byte(i)
		if sub%16 != service%16 && service != 17 && service != 128 && service != 3 {
			continue
		}
		p := laid(pus.Command{Service: service, Sub: sub})
		var code byte
		switch {
		case service != 17 && service != 128 && service != 3:
			code = 4
		case service == 17 && sub != 1, service == 128 && sub != 1 && sub != 2 && sub != 9, service == 3 && sub != 27:
			code = 5
		case service == 128 && sub != 9, service == 3:
			code = 6
		}
		judges(t, "each kind", p, 5, table(), code, pus.Command{Service: service, Sub: sub})
		judges(t, "no table", p, 5, nil, 4, pus.Command{})
		judges(t, "an empty table", p, 5, verify.Table{}, 4, pus.Command{})
		judges(t, "that kind", p, 5, verify.Table{{service, sub}: {0, 0}}, 0, pus.Command{Service: service, Sub: sub})
		judges(t, "another sub", p, 5, verify.Table{{service, sub + 1}: {0, 0}}, 5, pus.Command{})
		judges(t, "another service", p, 5, verify.Table{{service + 1, sub}: {0, 0}}, 4, pus.Command{})
		judges(t, "others", p, 5, verify.Table{{service + 1, sub}: {0, 0}, {service, sub - 1}: {0, 0}}, 5, pus.Command{})
	}
}

// TestSwapped: a kind's service and sub aren't each other's.
func TestSwapped(t *testing.T) {
	judges(t, "swapped", laid(pus.Command{Service: 1, Sub: 17}), 5, verify.Table{{17, 1}: {0, 0}}, 4, pus.Command{})
	judges(t, "swapped", laid(pus.Command{Service: 17, Sub: 3}), 5, verify.Table{{17, 1}: {0, 0}, {3, 17}: {0, 0}}, 5, pus.Command{})
}

// TestSizes: Least - 1, Least, Most and Most + 1 bytes of data among others,
// and bounds that no data can keep.
func TestSizes(t *testing.T) {
	for _, form := range []verify.Form{
		{0, 0}, {1, 1}, {0, 1}, {1, 3}, {2, 2}, {4, 10}, {0, 195}, {195, 195}, {194, 196}, {196, 300}, {19, 19},
		{-5, 3}, {-5, -1}, {3, 2}, {0, -1}, {math.MinInt, math.MaxInt}, {math.MaxInt, math.MinInt}, {math.MinInt, 0}, {1, math.MaxInt}, {math.MaxInt, math.MaxInt}, {math.MinInt, math.MinInt},
	} {
		for n := range 196 {
			c := pus.Command{Acks: 15, Service: 128, Sub: 7, Source: 65535, Data: filled(n)}
			code := byte(6)
			if n >= form.Least && n <= form.Most {
				code = 0
			}
			judges(t, "sizes", laid(c), 5, verify.Table{{128, 7}: form}, code, c)
		}
	}
	for _, x := range []struct {
		service, sub byte
		n            int
		code         byte
	}{{17, 1, 0, 0}, {17, 1, 1, 6}, {128, 1, 0, 6}, {128, 1, 1, 0}, {128, 1, 2, 6}, {128, 2, 0, 6}, {128, 2, 1, 0}, {128, 2, 3, 0}, {128, 2, 4, 6}, {3, 27, 3, 6}, {3, 27, 4, 0}, {3, 27, 10, 0}, {3, 27, 11, 6}} {
		c := pus.Command{Service: x.service, Sub: x.sub, Data: filled(x.n)}
		judges(t, "each by its own form", laid(c), 5, table(), x.code, c)
	}
}

// faulty is a packet with the faults whose bits are set, and the code of the
// first one of them.
func faulty(faults int) (tc []byte, apid uint16, code byte) {
	has := func(bit int) bool { return faults>>bit&1 == 1 }
	c := pus.Command{Acks: 9, Service: 128, Sub: 1, Data: []byte{1}}
	if has(7) {
		c.Data, code = nil, 6
	}
	if has(6) {
		c.Sub, code = 77, 5
	}
	if has(5) {
		c.Service, code = 200, 4
	}
	p := laid(c)
	if has(4) {
		p[6], code = 0x49, 2
	}
	apid = 5
	if has(3) {
		apid, code = 6, 1
	}
	if has(2) {
		p[0], code = p[0]^0x10, 1
	}
	if has(1) {
		p[2], code = p[2]^0x80, 2
	}
	p = rechecked(p)
	if has(0) {
		p[len(p)-1], code = p[len(p)-1]^1, 3
	}
	return p, apid, code
}

// TestOrder: each choice of faults has the code of the first of them; with a
// wrong length on top, that one's.
func TestOrder(t *testing.T) {
	for faults := range 1 << 8 {
		p, apid, code := faulty(faults)
		c := pus.Command{Acks: 9, Service: 128, Sub: 1, Data: []byte{1}}
		judges(t, "faults", p, apid, table(), code, c)
		judges(t, "faults, and a byte fewer", p[:len(p)-1], apid, table(), 2, c)
		judges(t, "faults, and a byte more", append(bytes.Clone(p), 9), apid, table(), 2, c)
		judges(t, "faults, and too few bytes", p[:8], apid, table(), 2, c)
	}
}

// TestID: of packets of each length, the shorter ones too.
func TestID(t *testing.T) {
	for _, x := range []struct {
		tc   []byte
		want uint32
	}{
		{nil, 0}, {[]byte{}, 0}, {[]byte{0x12}, 0x12000000}, {[]byte{0x12, 0x34}, 0x12340000}, {[]byte{0x12, 0x34, 0x56}, 0x12345600},
		{[]byte{0x12, 0x34, 0x56, 0x78}, 0x12345678}, {[]byte{0x12, 0x34, 0x56, 0x78, 0x9a}, 0x12345678}, {[]byte{255, 255, 255, 255, 1, 2}, math.MaxUint32},
		{[]byte{0, 0, 0, 1}, 1}, {[]byte{0, 0, 0, 0, 1}, 0},
	} {
		if v := verify.Judge(x.tc, 5, table()); v.ID != x.want || v.Code != 2 {
			t.Errorf("Judge(%x): ID %08x, code %d", x.tc, v.ID, v.Code)
		}
		// What lies behind a short packet isn't its own.
		room := append(bytes.Clone(x.tc), 1, 2, 3, 4, 5)
		if v := verify.Judge(room[:len(x.tc)], 5, table()); v.ID != x.want {
			t.Errorf("Judge(%x) with capacity to spare: ID %08x", x.tc, v.ID)
		}
	}
	whole := laid(pus.Command{Service: 17, Sub: 1})
	for count := range 16384 {
		p := rechecked(with(with(whole, 2, 0xc0|byte(count>>8)), 3, byte(count)))
		if v := verify.Judge(p, 5, table()); v.Code != 0 || v.ID != 0x1805c000+uint32(count) {
			t.Fatalf("Count %d: code %d, ID %08x", count, v.Code, v.ID)
		}
	}
}

// reports checks the sub and the data of a report.
func reports(t *testing.T, name string, sub byte, data []byte, wantSub byte, want []byte) {
	t.Helper()
	if sub != wantSub || !bytes.Equal(data, want) {
		t.Errorf("%s: %d, %x, want %d, %x", name, sub, data, wantSub, want)
	}
}

// TestAcceptedAndDone: each code, with IDs up to the greatest; the data of Done
// hang on its own code, not on the verdict's.
func TestAcceptedAndDone(t *testing.T) {
	for _, x := range []struct {
		id   uint32
		want string
	}{{0, "\x00\x00\x00\x00"}, {1, "\x00\x00\x00\x01"}, {0x1803c000, "\x18\x03\xc0\x00"}, {0x12345678, "\x12\x34\x56\x78"}, {0xff000000, "\xff\x00\x00\x00"}, {math.MaxUint32, "\xff\xff\xff\xff"}} {
		for code := range 256 {
			v := verify.Verdict{Code: byte(code), ID: x.id, Command: pus.Command{Acks: byte(code), Service: 9, Data: []byte{1}}}
			failed := x.want + string([]byte{byte(code)})
			sub, data := verify.Accepted(v)
			if code == 0 {
				reports(t, "Accepted", sub, data, 1, []byte(x.want))
			} else {
				reports(t, "Accepted", sub, data, 2, []byte(failed))
			}
			for _, other := range []byte{0, 1, 6, 255, byte(code)} {
				v.Code = other
				sub, data = verify.Done(v, byte(code))
				if code == 0 {
					reports(t, "Done", sub, data, 7, []byte(x.want))
				} else {
					reports(t, "Done", sub, data, 8, []byte(failed))
				}
			}
		}
	}
	sub, data := verify.Accepted(verify.Verdict{})
	reports(t, "Accepted of a zero verdict", sub, data, 1, make([]byte, 4))
	sub, data = verify.Done(verify.Verdict{}, 0)
	reports(t, "Done of a zero verdict", sub, data, 7, make([]byte, 4))
}

// TestReportsOfJudge: what was judged, reported.
func TestReportsOfJudge(t *testing.T) {
	p := laid(pus.Command{Acks: 9, Service: 17, Sub: 1})
	sub, data := verify.Accepted(verify.Judge(p, 5, table()))
	reports(t, "accepted", sub, data, 1, p[:4])
	sub, data = verify.Accepted(verify.Judge(p, 5, nil))
	reports(t, "an illegal service", sub, data, 2, []byte("\x18\x05\xc0\x01\x04"))
	sub, data = verify.Accepted(verify.Judge(p[:3], 5, nil))
	reports(t, "cut off", sub, data, 2, []byte("\x18\x05\xc0\x00\x02"))
	sub, data = verify.Accepted(verify.Judge(nil, 5, nil))
	reports(t, "nil", sub, data, 2, []byte("\x00\x00\x00\x00\x02"))
	sub, data = verify.Done(verify.Judge(p, 5, table()), 0)
	reports(t, "done", sub, data, 7, p[:4])
	sub, data = verify.Done(verify.Judge(p, 5, table()), 8)
	reports(t, "undone", sub, data, 8, []byte("\x18\x05\xc0\x01\x08"))
}

// TestWants: bit 0 of Acks and bit 3 each for its own report, and each report
// for any code but 0.
func TestWants(t *testing.T) {
	for _, x := range []struct {
		acks        byte
		start, done bool
	}{{0, false, false}, {1, true, false}, {2, false, false}, {4, false, false}, {8, false, true}, {9, true, true}, {6, false, false}, {14, false, true}, {7, true, false}, {15, true, true}} {
		v := verify.Verdict{ID: 5, Command: pus.Command{Acks: x.acks, Service: 17, Sub: 1}}
		if verify.Wants(v, true) != x.start || verify.Wants(v, false) != x.done {
			t.Errorf("Acks %d: %t, %t", x.acks, verify.Wants(v, true), verify.Wants(v, false))
		}
		judged := verify.Judge(laid(v.Command), 5, table())
		if verify.Wants(judged, true) != x.start || verify.Wants(judged, false) != x.done {
			t.Errorf("Acks %d, judged: %t, %t", x.acks, verify.Wants(judged, true), verify.Wants(judged, false))
		}
		for code := 1; code < 256; code++ {
			v.Code = byte(code)
			if !verify.Wants(v, true) || !verify.Wants(v, false) {
				t.Errorf("Acks %d, code %d: a report isn't wanted", x.acks, code)
			}
		}
	}
	for acks := range 256 {
		v := verify.Verdict{Command: pus.Command{Acks: byte(acks)}}
		if verify.Wants(v, true) != (acks%2 == 1) || verify.Wants(v, false) != (acks/8%2 == 1) {
			t.Errorf("Acks %d", acks)
		}
	}
	if refused := verify.Judge(nil, 5, table()); !verify.Wants(refused, true) || !verify.Wants(refused, false) {
		t.Error("a refused command's reports aren't wanted")
	}
}

func TestKnown(t *testing.T) {
	var none verify.Table
	for service := range 256 {
		s := byte(service)
		if verify.Known(none, s) || verify.Known(verify.Table{}, s) {
			t.Error("known to an empty table", s)
		}
		if want := s == 17 || s == 128 || s == 3; verify.Known(table(), s) != want {
			t.Error("Known", s)
		}
		if !verify.Known(verify.Table{{s, 0}: {}}, s) || !verify.Known(verify.Table{{s, 255}: {9, 1}, {s, 3}: {}}, s) {
			t.Error("unknown", s)
		}
		if verify.Known(verify.Table{{s + 1, s}: {}, {s - 1, s}: {}}, s) {
			t.Error("known by its sub", s)
		}
	}
	full := verify.Table{}
	for i := range 65536 {
		full[verify.Kind{Service: byte(i >> 8), Sub: byte(i)}] = verify.Form{Least: 1, Most: 2}
	}
	for sub := range 256 {
		delete(full, verify.Kind{Service: 99, Sub: byte(sub)})
	}
	for service := range 256 {
		if verify.Known(full, byte(service)) != (service != 99) {
			t.Error("of a full table", service)
		}
	}
}

// TestMemory: a command shares no memory with its packet, or with another
// verdict; reports share none with one another.
func TestMemory(t *testing.T) {
	kinds := verify.Table{{128, 9}: {0, 195}}
	whole := laid(pus.Command{Acks: 9, Service: 128, Sub: 9, Data: []byte("data")})
	want := bytes.Clone(whole)
	one, two := verify.Judge(whole, 5, kinds), verify.Judge(whole, 5, kinds)
	overwrite(one.Command.Data)
	if !bytes.Equal(whole, want) || string(two.Command.Data) != "data" {
		t.Errorf("a command shares memory: %x, %q", whole, two.Command.Data)
	}
	overwrite(whole)
	clear(kinds)
	if string(two.Command.Data) != "data" || two.ID != 0x1805c001 || two.Code != 0 {
		t.Errorf("an argument was kept: %v", two)
	}
	for _, code := range []byte{0, 6} {
		v := verify.Verdict{Code: code, ID: 0x01020304}
		_, a := verify.Accepted(v)
		_, b := verify.Accepted(v)
		_, c := verify.Done(v, code)
		_, d := verify.Done(v, code)
		overwrite(a)
		overwrite(c)
		if string(b[:4]) != "\x01\x02\x03\x04" || !bytes.Equal(b, d) {
			t.Errorf("reports share memory: %x, %x", b, d)
		}
	}
}
