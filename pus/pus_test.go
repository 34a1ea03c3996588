package pus_test

import (
	"bytes"
	"math"
	"testing"

	"aerie/api"
	"aerie/packet"
	"aerie/pus"
)

// filled are n bytes, the same ones in each run.
func filled(n int) []byte {
	p := make([]byte, n)
	for i := range p {
		p[i] = byte(i*7 + n)
	}
	return p
}

// with is p with another byte at that place.
func with(p []byte, at int, b byte) []byte {
	q := bytes.Clone(p)
	q[at] = b
	return q
}

// overwrite overwrites a list, and what capacity it has to spare.
func overwrite(p []byte) {
	p = p[:cap(p)]
	for i := range p {
		p[i] = 0xee
	}
}

// commandLaid is a command as the document tells it.
func commandLaid(c pus.Command) []byte {
	p := []byte{0x20 + c.Acks, c.Service, c.Sub, byte(c.Source >> 8), byte(c.Source)}
	return append(p, c.Data...)
}

// reportLaid is a report as the document tells it.
func reportLaid(r pus.Report) []byte {
	p := []byte{0x20, r.Service, r.Sub, byte(r.Count >> 8), byte(r.Count), 0, 0, byte(r.Time >> 24), byte(r.Time >> 16), byte(r.Time >> 8), byte(r.Time)}
	return append(p, r.Data...)
}

// packetLaid is a packet with these data, its checksum worked out bit by bit
// and not by the project's package.
func packetLaid(command bool, apid, count uint16, data []byte) []byte {
	first := byte(0x08)
	if command {
		first = 0x18
	}
	n := len(data) + 1
	p := append([]byte{first + byte(apid>>8), byte(apid), 0xc0 + byte(count>>8), byte(count), byte(n >> 8), byte(n)}, data...)
	sum := 0xffff
	for _, b := range p {
		for bit := 7; bit >= 0; bit-- {
			out := sum>>15 ^ int(b>>bit)&1
			sum = sum << 1 & 0xffff
			if out == 1 {
				sum ^= 0x1021
			}
		}
	}
	return append(p, byte(sum>>8), byte(sum))
}

func likeCommands(a, b pus.Command) bool {
	return a.Acks == b.Acks && a.Service == b.Service && a.Sub == b.Sub && a.Source == b.Source && string(a.Data) == string(b.Data)
}

func likeReports(a, b pus.Report) bool {
	return a.Service == b.Service && a.Sub == b.Sub && a.Count == b.Count && a.Time == b.Time && string(a.Data) == string(b.Data)
}

// gives checks bytes, none beside an error, and the error.
func gives(t *testing.T, name string, got []byte, gotErr api.Errno, want []byte, err api.Errno) {
	t.Helper()
	if !bytes.Equal(got, want) || gotErr != err {
		t.Errorf("%s: %x, %d, want %x, %d", name, got, gotErr, want, err)
	}
	if err != api.OK && len(got) != 0 {
		t.Errorf("%s: bytes beside an error", name)
	}
}

// parsesCommand checks what ParseCommand gives, a zero value beside an error,
// and that the argument stays as it was.
func parsesCommand(t *testing.T, name string, p []byte, want pus.Command, err api.Errno) {
	t.Helper()
	before := bytes.Clone(p)
	got, gotErr := pus.ParseCommand(p)
	if !likeCommands(got, want) || gotErr != err {
		t.Errorf("%s: ParseCommand(%x) = %v, %d, want %v, %d", name, p, got, gotErr, want, err)
	}
	if !bytes.Equal(p, before) {
		t.Errorf("%s: the argument was changed", name)
	}
}

// parsesReport does the same for ParseReport.
func parsesReport(t *testing.T, name string, p []byte, want pus.Report, err api.Errno) {
	t.Helper()
	before := bytes.Clone(p)
	got, gotErr := pus.ParseReport(p)
	if !likeReports(got, want) || gotErr != err {
		t.Errorf("%s: ParseReport(%x) = %v, %d, want %v, %d", name, p, got, gotErr, want, err)
	}
	if !bytes.Equal(p, before) {
		t.Errorf("%s: the argument was changed", name)
	}
}

// TestLiterally: the chapter's example first.
func TestLiterally(t *testing.T) {
	for _, x := range []struct {
		c    pus.Command
		want string
	}{
		{pus.Command{Acks: 9, Service: 17, Sub: 1}, "\x29\x11\x01\x00\x00"},
		{pus.Command{}, "\x20\x00\x00\x00\x00"},
		{pus.Command{Acks: 15, Service: 255, Sub: 254, Source: 0x1234, Data: []byte("AB")}, "\x2f\xff\xfe\x12\x34AB"},
	} {
		got, err := x.c.Bytes()
		gives(t, "a command", got, err, []byte(x.want), api.OK)
		parsesCommand(t, "a command", []byte(x.want), x.c, api.OK)
	}
	for _, x := range []struct {
		r    pus.Report
		want string
	}{
		{pus.Report{Service: 17, Sub: 2, Count: 3, Time: 0x01020304}, "\x20\x11\x02\x00\x03\x00\x00\x01\x02\x03\x04"},
		{pus.Report{}, "\x20\x00\x00\x00\x00\x00\x00\x00\x00\x00\x00"},
		{pus.Report{Service: 255, Sub: 254, Count: 0x1234, Time: 0xfedcba98, Data: []byte("AB")}, "\x20\xff\xfe\x12\x34\x00\x00\xfe\xdc\xba\x98AB"},
	} {
		got, err := x.r.Bytes()
		gives(t, "a report", got, err, []byte(x.want), api.OK)
		parsesReport(t, "a report", []byte(x.want), x.r, api.OK)
	}
}

// TestCommands: each amount of data up to the greatest, and each field with
// many values.
func TestCommands(t *testing.T) {
	for n := range 196 {
		c := pus.Command{Acks: byte(n % 16), Service: byte(n * 3), Sub: byte(n * 5), Source: uint16(n * 333), Data: filled(n)}
		got, err := c.Bytes()
		gives(t, "each size", got, err, commandLaid(c), api.OK)
		parsesCommand(t, "each size", commandLaid(c), c, api.OK)
	}
	for i := range 65536 {
		c := pus.Command{Acks: byte(i % 16), Service: byte(i), Sub: byte(i >> 8), Source: uint16(i)}
		got, err := c.Bytes()
		gives(t, "each number", got, err, commandLaid(c), api.OK)
		parsesCommand(t, "each number", commandLaid(c), c, api.OK)
	}
}

func TestCommandErrors(t *testing.T) {
	for acks := range 256 {
		for _, n := range []int{0, 1, 194, 195, 196, 197, 200, 201, 256, 451, 65536, 65536 + 100} {
			c := pus.Command{Acks: byte(acks), Service: 1, Sub: 2, Source: 3, Data: filled(n)}
			var want []byte
			err := api.OK
			switch {
			case acks > 15:
				err = api.ErrArg
			case n > 195:
				err = api.ErrLong
			default:
				want = commandLaid(c)
			}
			got, gotErr := c.Bytes()
			gives(t, "acks and sizes", got, gotErr, want, err)
			if !bytes.Equal(c.Data, filled(n)) {
				t.Error("the data was changed")
			}
		}
	}
}

func TestParseCommand(t *testing.T) {
	parsesCommand(t, "nil", nil, pus.Command{}, api.ErrForm)
	for n := range 5 {
		parsesCommand(t, "too few", []byte{0x29, 17, 1, 0, 0}[:n], pus.Command{}, api.ErrForm)
		parsesCommand(t, "too few zeros", make([]byte, n), pus.Command{}, api.ErrForm)
	}
	parsesCommand(t, "five bytes", []byte{0x29, 17, 1, 2, 3}, pus.Command{Acks: 9, Service: 17, Sub: 1, Source: 0x203}, api.OK)
	for _, n := range []int{5, 6, 199, 200, 201, 202, 256, 300, 65536, 65536 + 100} {
		p := filled(n)
		for first := range 256 {
			p[0] = byte(first)
			switch {
			case first/16 != 2:
				parsesCommand(t, "another first half-byte", p, pus.Command{}, api.ErrForm)
			case n > 200:
				parsesCommand(t, "too long", p, pus.Command{}, api.ErrLong)
			default:
				want := pus.Command{Acks: byte(first % 16), Service: p[1], Sub: p[2], Source: uint16(p[3])*256 + uint16(p[4]), Data: p[5:]}
				parsesCommand(t, "each first byte", p, want, api.OK)
			}
		}
	}
}

// TestReports: each amount of data up to the greatest, and each field with
// many values.
func TestReports(t *testing.T) {
	for n := range 190 {
		r := pus.Report{Service: byte(n * 3), Sub: byte(n * 5), Count: uint16(n * 333), Time: uint32(n) * 22222222, Data: filled(n)}
		got, err := r.Bytes()
		gives(t, "each size", got, err, reportLaid(r), api.OK)
		parsesReport(t, "each size", reportLaid(r), r, api.OK)
	}
	for i := range 65536 {
		r := pus.Report{Service: byte(i), Sub: byte(i >> 8), Count: uint16(i), Time: uint32(i) * 65537}
		got, err := r.Bytes()
		gives(t, "each number", got, err, reportLaid(r), api.OK)
		parsesReport(t, "each number", reportLaid(r), r, api.OK)
	}
	for _, time := range []uint32{1, 255, 256, 65535, 65536, 1<<24 - 1, 1 << 24, 1<<31 - 1, 1 << 31, math.MaxUint32} {
		r := pus.Report{Time: time}
		parsesReport(t, "times", reportLaid(r), r, api.OK)
	}
}

func TestReportErrors(t *testing.T) {
	for _, n := range []int{0, 1, 188, 189, 190, 191, 200, 201, 256, 445, 65536, 65536 + 100} {
		r := pus.Report{Service: 1, Sub: 2, Count: 3, Time: 4, Data: filled(n)}
		var want []byte
		err := api.ErrLong
		if n <= 189 {
			want, err = reportLaid(r), api.OK
		}
		got, gotErr := r.Bytes()
		gives(t, "sizes", got, gotErr, want, err)
		if !bytes.Equal(r.Data, filled(n)) {
			t.Error("the data was changed")
		}
	}
}

func TestParseReport(t *testing.T) {
	parsesReport(t, "nil", nil, pus.Report{}, api.ErrForm)
	whole := reportLaid(pus.Report{Service: 17, Sub: 2, Count: 3, Time: 4})
	for n := range 11 {
		parsesReport(t, "too few", whole[:n], pus.Report{}, api.ErrForm)
		parsesReport(t, "too few zeros", make([]byte, n), pus.Report{}, api.ErrForm)
	}
	parsesReport(t, "eleven bytes", whole, pus.Report{Service: 17, Sub: 2, Count: 3, Time: 4}, api.OK)
	for _, n := range []int{0, 1, 188, 189, 190, 191, 300, 65536} {
		r := pus.Report{Service: 5, Sub: 6, Count: 7, Time: 8, Data: filled(n)}
		p, want, err := reportLaid(r), r, api.OK
		if n > 189 {
			want, err = pus.Report{}, api.ErrLong
		}
		parsesReport(t, "sizes", p, want, err)
		// A fixed byte that differs comes ahead of a report that is too long.
		for b := range 256 {
			for _, at := range []int{0, 5, 6} {
				if byte(b) != p[at] {
					parsesReport(t, "a fixed byte differs", with(p, at, byte(b)), pus.Report{}, api.ErrForm)
				}
			}
		}
		parsesReport(t, "all fixed bytes differ", with(with(with(p, 0, 0x29), 5, 1), 6, 1), pus.Report{}, api.ErrForm)
	}
}

// TestEachByteOfAReport: a byte that isn't fixed is any.
func TestEachByteOfAReport(t *testing.T) {
	whole := reportLaid(pus.Report{Service: 17, Sub: 2, Count: 0x304, Time: 0x05060708, Data: []byte{9, 10}})
	for at := range whole {
		for b := range 256 {
			p := with(whole, at, byte(b))
			if (at == 0 && b != 0x20) || (at == 5 || at == 6) && b != 0 {
				parsesReport(t, "a fixed byte", p, pus.Report{}, api.ErrForm)
				continue
			}
			want := pus.Report{Service: p[1], Sub: p[2], Count: uint16(p[3])*256 + uint16(p[4]), Time: ((uint32(p[7])*256+uint32(p[8]))*256+uint32(p[9]))*256 + uint32(p[10]), Data: p[11:]}
			parsesReport(t, "a byte", p, want, api.OK)
		}
	}
}

func TestSendAndTellLiterally(t *testing.T) {
	got, err := pus.Send(3, 0, pus.Command{Acks: 9, Service: 17, Sub: 1})
	gives(t, "Send", got, err, []byte("\x18\x03\xc0\x00\x00\x06\x29\x11\x01\x00\x00\x05\x12"), api.OK)
	got, err = pus.Tell(5, 1, pus.Report{Service: 17, Sub: 2, Count: 3, Time: 0x01020304})
	gives(t, "Tell", got, err, []byte("\x08\x05\xc0\x01\x00\x0c\x20\x11\x02\x00\x03\x00\x00\x01\x02\x03\x04\x39\x43"), api.OK)
}

// TestSendAndTell: each amount of data, with Apids and Counts up to the
// greatest; what comes out is parsed again.
func TestSendAndTell(t *testing.T) {
	for n := range 196 {
		for _, apid := range []uint16{0, 1, 256, 2047} {
			for _, count := range []uint16{0, 1, 256, 16383} {
				c := pus.Command{Acks: byte(n % 16), Service: 128, Sub: byte(n), Source: count, Data: filled(n)}
				got, err := pus.Send(apid, count, c)
				gives(t, "Send", got, err, packetLaid(true, apid, count, commandLaid(c)), api.OK)
				p, err := packet.Parse(got)
				if err != api.OK || !p.Command || p.Apid != apid || p.Count != count {
					t.Fatalf("Send: Parse = %v, %d", p, err)
				}
				parsesCommand(t, "Send", p.Data, c, api.OK)
				if n > 189 {
					continue
				}
				r := pus.Report{Service: 5, Sub: byte(n), Count: apid, Time: uint32(n) << 20, Data: filled(n)}
				got, err = pus.Tell(apid, count, r)
				gives(t, "Tell", got, err, packetLaid(false, apid, count, reportLaid(r)), api.OK)
				p, err = packet.Parse(got)
				if err != api.OK || p.Command || p.Apid != apid || p.Count != count {
					t.Fatalf("Tell: Parse = %v, %d", p, err)
				}
				parsesReport(t, "Tell", p.Data, r, api.OK)
			}
		}
	}
}

// TestSendAndTellErrors: those of the command, or the report, come ahead of
// those of the packet.
func TestSendAndTellErrors(t *testing.T) {
	for _, apid := range []uint16{0, 2047, 2048, 65535} {
		for _, count := range []uint16{0, 16383, 16384, 65535} {
			outer := api.OK
			if apid > 2047 || count > 16383 {
				outer = api.ErrArg
			}
			for _, acks := range []byte{0, 15, 16, 255} {
				for _, n := range []int{0, 195, 196, 200, 201, 70000} {
					c := pus.Command{Acks: acks, Service: 1, Sub: 2, Data: filled(n)}
					err := outer
					switch {
					case acks > 15:
						err = api.ErrArg
					case n > 195:
						err = api.ErrLong
					}
					var want []byte
					if err == api.OK {
						want = packetLaid(true, apid, count, commandLaid(c))
					}
					got, gotErr := pus.Send(apid, count, c)
					gives(t, "Send", got, gotErr, want, err)
				}
			}
			for _, n := range []int{0, 189, 190, 200, 201, 70000} {
				r := pus.Report{Service: 1, Sub: 2, Data: filled(n)}
				err := outer
				if n > 189 {
					err = api.ErrLong
				}
				var want []byte
				if err == api.OK {
					want = packetLaid(false, apid, count, reportLaid(r))
				}
				got, gotErr := pus.Tell(apid, count, r)
				gives(t, "Tell", got, gotErr, want, err)
			}
		}
	}
}

// numbers checks what Numbers gives, none beside an error, and that both
// arguments stay as they were.
func numbers(t *testing.T, p []byte, sizes []int, want []uint32, err api.Errno) {
	t.Helper()
	before, sizesBefore := bytes.Clone(p), append([]int(nil), sizes...)
	got, gotErr := pus.Numbers(p, sizes...)
	if !alike(got, want) || gotErr != err {
		t.Errorf("Numbers(%x, %v) = %v, %d, want %v, %d", p, sizes, got, gotErr, want, err)
	}
	if !bytes.Equal(p, before) || !alike(sizes, sizesBefore) {
		t.Errorf("Numbers(%x, %v): an argument was changed", before, sizesBefore)
	}
}

func alike[T comparable](a, b []T) bool {
	if len(a) != len(b) {
		return false
	}
	for i := range a {
		if a[i] != b[i] {
			return false
		}
	}
	return true
}

func TestNumbers(t *testing.T) {
	numbers(t, nil, nil, nil, api.OK)
	numbers(t, []byte{}, []int{}, nil, api.OK)
	numbers(t, []byte{7}, nil, nil, api.ErrForm)
	p := []byte{0xf1, 0x02, 0x83, 0x04, 0xa5, 0x06, 0xff}
	for _, x := range []struct {
		sizes []int
		want  []uint32
	}{
		{[]int{1}, []uint32{0xf1}}, {[]int{2}, []uint32{0xf102}}, {[]int{4}, []uint32{0xf1028304}},
		{[]int{1, 1}, []uint32{0xf1, 2}}, {[]int{1, 2}, []uint32{0xf1, 0x283}}, {[]int{2, 1}, []uint32{0xf102, 0x83}},
		{[]int{1, 2, 4}, []uint32{0xf1, 0x283, 0x04a506ff}}, {[]int{4, 2, 1}, []uint32{0xf1028304, 0xa506, 0xff}}, {[]int{2, 4, 1}, []uint32{0xf102, 0x8304a506, 0xff}},
		{[]int{1, 1, 1, 1, 1, 1, 1}, []uint32{0xf1, 2, 0x83, 4, 0xa5, 6, 0xff}},
	} {
		total := 0
		for _, size := range x.sizes {
			total += size
		}
		for n := range len(p) + 1 {
			if n == total {
				numbers(t, p[:n], x.sizes, x.want, api.OK)
			} else {
				numbers(t, p[:n], x.sizes, nil, api.ErrForm)
			}
		}
		numbers(t, nil, x.sizes, nil, api.ErrForm)
		numbers(t, make([]byte, 256+total), x.sizes, nil, api.ErrForm)
	}
	numbers(t, bytes.Repeat([]byte{255}, 7), []int{4, 1, 2}, []uint32{math.MaxUint32, 255, 65535}, api.OK)
	numbers(t, make([]byte, 7), []int{4, 1, 2}, []uint32{0, 0, 0}, api.OK)
}

// others are sizes that numbers don't have.
func others() []int {
	return []int{0, 3, 5, 6, 7, 8, 16, -1, -2, -4, 255, 256, 257, 258, 260, 1 << 31, 1<<32 + 1, 1<<32 + 2, 1<<32 + 4, 1 << 62, math.MaxInt, math.MaxInt - 1, math.MinInt, math.MinInt + 1, math.MinInt + 4}
}

// TestNumbersOtherSizes: a size that numbers don't have is ErrArg, whether
// there are as many bytes as the sizes ask for or not: the chapter names no
// order, and ErrArg is the lowest error.
func TestNumbersOtherSizes(t *testing.T) {
	for _, size := range others() {
		for n := range 20 {
			p := filled(n)
			numbers(t, p, []int{size}, nil, api.ErrArg)
			numbers(t, p, []int{size, 1}, nil, api.ErrArg)
			numbers(t, p, []int{1, size}, nil, api.ErrArg)
			numbers(t, p, []int{4, 2, size, 1}, nil, api.ErrArg)
			numbers(t, p, []int{size, size, 4}, nil, api.ErrArg)
			numbers(t, p, []int{size, -size, 1}, nil, api.ErrArg)
		}
		numbers(t, nil, []int{size}, nil, api.ErrArg)
		numbers(t, filled(300), []int{size}, nil, api.ErrArg)
	}
	// As many bytes as the sizes together.
	numbers(t, filled(3), []int{3}, nil, api.ErrArg)
	numbers(t, filled(8), []int{8}, nil, api.ErrArg)
	numbers(t, nil, []int{0}, nil, api.ErrArg)
	numbers(t, filled(1), []int{2, -1}, nil, api.ErrArg)
	numbers(t, nil, []int{math.MaxInt, math.MaxInt, 2}, nil, api.ErrArg)
}

// lays checks what Lay gives, and that both arguments stay as they were.
func lays(t *testing.T, sizes []int, l []uint32, want []byte) {
	t.Helper()
	sizesBefore, before := append([]int(nil), sizes...), append([]uint32(nil), l...)
	if got := pus.Lay(sizes, l...); !bytes.Equal(got, want) {
		t.Errorf("Lay(%v, %x) = %x, want %x", sizes, l, got, want)
	}
	if !alike(sizes, sizesBefore) || !alike(l, before) {
		t.Errorf("Lay(%v, %x): an argument was changed", sizesBefore, before)
	}
}

func TestLay(t *testing.T) {
	lays(t, nil, nil, nil)
	lays(t, []int{}, []uint32{}, nil)
	lays(t, nil, []uint32{1, 2, 3}, nil)
	const a, b, c = 0xf1e2d3c4, 0x01020304, math.MaxUint32
	for _, x := range []struct {
		sizes []int
		l     []uint32
		want  string
	}{
		// Numbers that go into their sizes.
		{[]int{1}, []uint32{0xf1}, "\xf1"}, {[]int{2}, []uint32{0xf102}, "\xf1\x02"}, {[]int{4}, []uint32{a}, "\xf1\xe2\xd3\xc4"},
		{[]int{1, 2, 4}, []uint32{1, 2, 3}, "\x01\x00\x02\x00\x00\x00\x03"}, {[]int{4, 2, 1}, []uint32{a, 0xffff, 255}, "\xf1\xe2\xd3\xc4\xff\xff\xff"},
		// The low bits of numbers that don't.
		{[]int{1}, []uint32{a}, "\xc4"}, {[]int{2}, []uint32{a}, "\xd3\xc4"}, {[]int{1}, []uint32{256}, "\x00"}, {[]int{2}, []uint32{65536}, "\x00\x00"}, {[]int{1, 2}, []uint32{c, c}, "\xff\xff\xff"},
		// Missing ones.
		{[]int{1}, nil, "\x00"}, {[]int{2}, nil, "\x00\x00"}, {[]int{4}, nil, "\x00\x00\x00\x00"}, {[]int{1, 2, 4}, []uint32{b}, "\x04\x00\x00\x00\x00\x00\x00"}, {[]int{4, 1}, []uint32{b}, "\x01\x02\x03\x04\x00"},
		// More than there are sizes.
		{[]int{1}, []uint32{1, 2, 3}, "\x01"}, {[]int{2, 1}, []uint32{1, 2, 3, 4}, "\x00\x01\x02"},
	} {
		lays(t, x.sizes, x.l, []byte(x.want))
	}
}

// TestLayOtherSizes: for a size that numbers don't have nothing is laid, and
// its number with it.
func TestLayOtherSizes(t *testing.T) {
	for _, size := range others() {
		lays(t, []int{size}, nil, nil)
		lays(t, []int{size}, []uint32{math.MaxUint32}, nil)
		lays(t, []int{size, 1}, []uint32{1, 2}, []byte{2})
		lays(t, []int{1, size, 2, size, 4}, []uint32{1, 2, 3, 4, 5}, []byte{1, 0, 3, 0, 0, 0, 5})
		lays(t, []int{size, 2, size}, []uint32{1}, []byte{0, 0})
		lays(t, []int{size, size, size}, []uint32{1, 2, 3, 4}, nil)
	}
}

// TestNumbersAndLay: what was laid is read again, for each choice of sizes.
func TestNumbersAndLay(t *testing.T) {
	for n := range 7 {
		choices := 1
		for range n {
			choices *= 3
		}
		for choice := range choices {
			sizes, l, want := chosen(n, choice)
			p := pus.Lay(sizes, l...)
			numbers(t, p, sizes, want, api.OK)
			numbers(t, append(bytes.Clone(p), 0), sizes, nil, api.ErrForm)
			lays(t, sizes, want, p)
		}
	}
}

// chosen are n sizes, so many numbers, and the numbers' low bits that go into
// their sizes.
func chosen(n, choice int) (sizes []int, l, low []uint32) {
	seed := uint32(choice)
	for range n {
		size := 1 << (choice % 3)
		choice /= 3
		seed = seed*1664525 + 1013904223
		sizes, l = append(sizes, size), append(l, seed)
		low = append(low, uint32(uint64(seed)%(1<<(8*size))))
	}
	return sizes, l, low
}

// TestMemoryOfCommands: what was handed in and what was handed out is the
// caller's.
func TestMemoryOfCommands(t *testing.T) {
	whole := []byte("data and what there is to spare")
	c := pus.Command{Acks: 1, Service: 2, Sub: 3, Source: 4, Data: whole[:4]}
	one, _ := c.Bytes()
	two, _ := c.Bytes()
	sent, _ := pus.Send(5, 6, c)
	again, _ := pus.Send(5, 6, c)
	want, wantSent := bytes.Clone(two), bytes.Clone(again)
	overwrite(one)
	overwrite(sent)
	if string(whole) != "data and what there is to spare" || !bytes.Equal(two, want) || !bytes.Equal(again, wantSent) {
		t.Errorf("results share memory: %q, %x, %x", whole, two, again)
	}
	overwrite(whole)
	if !bytes.Equal(two, want) || !bytes.Equal(again, wantSent) {
		t.Errorf("the data was kept: %x, %x", two, again)
	}
	a, _ := pus.ParseCommand(two)
	b, _ := pus.ParseCommand(two)
	overwrite(a.Data)
	if !bytes.Equal(two, want) || string(b.Data) != "data" {
		t.Errorf("ParseCommand shares memory: %x, %q", two, b.Data)
	}
	overwrite(two)
	if string(b.Data) != "data" {
		t.Errorf("ParseCommand kept its argument: %q", b.Data)
	}
}

func TestMemoryOfReports(t *testing.T) {
	whole := []byte("data and what there is to spare")
	r := pus.Report{Service: 2, Sub: 3, Count: 4, Time: 5, Data: whole[:4]}
	one, _ := r.Bytes()
	two, _ := r.Bytes()
	told, _ := pus.Tell(5, 6, r)
	again, _ := pus.Tell(5, 6, r)
	want, wantTold := bytes.Clone(two), bytes.Clone(again)
	overwrite(one)
	overwrite(told)
	if string(whole) != "data and what there is to spare" || !bytes.Equal(two, want) || !bytes.Equal(again, wantTold) {
		t.Errorf("results share memory: %q, %x, %x", whole, two, again)
	}
	overwrite(whole)
	if !bytes.Equal(two, want) || !bytes.Equal(again, wantTold) {
		t.Errorf("the data was kept: %x, %x", two, again)
	}
	a, _ := pus.ParseReport(two)
	b, _ := pus.ParseReport(two)
	overwrite(a.Data)
	if !bytes.Equal(two, want) || string(b.Data) != "data" {
		t.Errorf("ParseReport shares memory: %x, %q", two, b.Data)
	}
	overwrite(two)
	if string(b.Data) != "data" {
		t.Errorf("ParseReport kept its argument: %q", b.Data)
	}
}

func TestMemoryOfNumbers(t *testing.T) {
	p := []byte{1, 2, 3}
	one, _ := pus.Numbers(p, 1, 2)
	two, _ := pus.Numbers(p, 1, 2)
	one[0], one[1] = 99, 99
	overwrite(p)
	if !alike(two, []uint32{1, 0x203}) {
		t.Errorf("Numbers' results share memory: %v", two)
	}
	sizes, l := []int{1, 2}, []uint32{1, 0x203}
	laid, again := pus.Lay(sizes, l...), pus.Lay(sizes, l...)
	overwrite(laid)
	sizes[0], l[0] = 4, 9
	if !bytes.Equal(again, []byte{1, 2, 3}) {
		t.Errorf("Lay's results share memory: %x", again)
	}
}
