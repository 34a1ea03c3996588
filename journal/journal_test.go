package journal_test

import (
	"encoding/binary"
	"math"
	"slices"
	"testing"

	"aerie/api"
	"aerie/journal"
)

type entry = journal.Entry

// made is an empty journal with that room.
func made(t *testing.T, room int) *journal.Journal {
	t.Helper()
	j, err := journal.New(room)
	if err != api.OK || j == nil {
		t.Fatalf("New(%d) = %v, %d", room, j, err)
	}
	return j
}

// nth is what is noted n-th, counted from 1: the same in each run.
func nth(n int) entry {
	return entry{Seq: uint32(n), Time: uint32(n) * 65537, Event: uint8(n * 3 % 5), Grade: uint8(n % 4), Data: ^uint32(n)}
}

// nths are those from and to, and what is between.
func nths(from, to int) []entry {
	var l []entry
	for n := from; n <= to; n++ {
		l = append(l, nth(n))
	}
	return l
}

// notes notes these entries, whose Seqs must be the next ones.
func notes(t *testing.T, j *journal.Journal, l ...entry) {
	t.Helper()
	for _, e := range l {
		if got := j.Note(e.Time, e.Event, e.Grade, e.Data); got != e {
			t.Fatalf("Note returns %v, want %v", got, e)
		}
	}
}

// noted is a journal with that room, in which so many were noted.
func noted(t *testing.T, room, n int) *journal.Journal {
	t.Helper()
	j := made(t, room)
	notes(t, j, nths(1, n)...)
	return j
}

// are checks a list of entries.
func are(t *testing.T, name string, got, want []entry) {
	t.Helper()
	if !slices.Equal(got, want) {
		t.Errorf("%s: %v, want %v", name, got, want)
	}
}

// holds checks all that a journal tells.
func holds(t *testing.T, j *journal.Journal, lost int, want ...entry) {
	t.Helper()
	if j.Len() != len(want) || j.Lost() != lost {
		t.Errorf("Len %d, Lost %d, want %d, %d", j.Len(), j.Lost(), len(want), lost)
	}
	are(t, "All", j.All(), want)
	last, ok := j.Last()
	switch {
	case len(want) == 0:
		if ok || last != (entry{}) {
			t.Errorf("Last = %v, %t, want none", last, ok)
		}
	case !ok || last != want[len(want)-1]:
		t.Errorf("Last = %v, %t, want %v", last, ok, want[len(want)-1])
	}
	var counts [256]int
	for _, e := range want {
		counts[e.Event]++
	}
	for event, n := range counts {
		if got := j.Count(uint8(event)); got != n {
			t.Errorf("Count(%d) = %d, want %d", event, got, n)
		}
	}
	for i, e := range want {
		are(t, "Since the one before", j.Since(e.Seq-1), want[i:])
		are(t, "Since one", j.Since(e.Seq), want[i+1:])
	}
	are(t, "Since 0", j.Since(0), want)
	var next uint32 = 1
	if len(want) > 0 {
		next = want[len(want)-1].Seq + 1
	}
	for _, seq := range []uint32{next, next + 1, math.MaxInt32, 1 << 31, 1<<31 + 1, math.MaxUint32 - 1, math.MaxUint32} {
		are(t, "Since one that isn't there yet", j.Since(seq), nil)
	}
}

// TestExample: the chapter's.
func TestExample(t *testing.T) {
	j := made(t, 2)
	for range 3 {
		j.Note(0, 0, 0, 0)
	}
	holds(t, j, 1, entry{Seq: 2}, entry{Seq: 3})
}

func TestGrades(t *testing.T) {
	if journal.Info != 0 || journal.Low != 1 || journal.Medium != 2 || journal.High != 3 {
		t.Error("the grades differ")
	}
}

func TestNew(t *testing.T) {
	for _, room := range []int{math.MinInt, math.MinInt + 1, math.MinInt32, -1 << 32, -17, -16, -2, -1, 0, 17, 18, 255, 4096, 4097, 65536, math.MaxInt32, 1 << 32, 1<<32 + 1, 1<<32 + 16, math.MaxInt - 1, math.MaxInt} {
		if j, err := journal.New(room); j != nil || err != api.ErrArg {
			t.Errorf("New(%d) = %v, %d, want nil, ErrArg", room, j, err)
		}
	}
	for room := 1; room <= api.MaxLog; room++ {
		holds(t, made(t, room), 0)
	}
}

// TestNote: as many as there is room for, one more, many more.
func TestNote(t *testing.T) {
	for room := 1; room <= api.MaxLog; room++ {
		j := made(t, room)
		for n := 1; n <= 5*room+20; n++ {
			notes(t, j, nth(n))
			first := max(1, n-room+1)
			holds(t, j, first-1, nths(first, n)...)
			if t.Failed() {
				t.Fatalf("room %d, the %d-th", room, n)
			}
		}
	}
}

// TestNoteGrade: above 3 it counts as 3, in what is returned and in what is
// kept.
func TestNoteGrade(t *testing.T) {
	for grade := range 256 {
		j := made(t, 2)
		want := entry{Seq: 1, Time: 7, Event: 8, Grade: uint8(min(grade, 3)), Data: 9}
		if got := j.Note(7, 8, uint8(grade), 9); got != want {
			t.Errorf("Note with Grade %d = %v", grade, got)
		}
		holds(t, j, 0, want)
	}
}

// TestNoteFields: each with its least and its greatest value.
func TestNoteFields(t *testing.T) {
	numbers := []uint32{0, 1, 255, 256, math.MaxInt32, 1 << 31, math.MaxUint32 - 1, math.MaxUint32}
	for _, time := range numbers {
		for _, data := range numbers {
			for _, event := range []uint8{0, 1, 127, 128, 255} {
				j := made(t, 1)
				for n := range 2 {
					e := entry{Seq: uint32(n + 1), Time: time, Event: event, Grade: uint8(3 * n), Data: data}
					notes(t, j, e)
					holds(t, j, n, e)
				}
			}
		}
	}
}

// TestTimes: entries are in the order in which they were noted, whatever their
// times are, and those that are alike otherwise are each kept.
func TestTimes(t *testing.T) {
	j := made(t, 4)
	var l []entry
	for i, time := range []uint32{9, 3, 3, math.MaxUint32, 0, 3, 3, 3, 3, 2} {
		l = append(l, entry{Seq: uint32(i + 1), Time: time, Event: 5, Grade: 1, Data: 6})
		notes(t, j, l[i])
		first := max(0, i-3)
		holds(t, j, first, l[first:]...)
	}
}

// TestCount: of an event that there is, that there was but is lost, that there
// never was.
func TestCount(t *testing.T) {
	j := made(t, 3)
	for _, x := range []struct {
		event           uint8
		zero, five, top int
	}{{5, 0, 1, 0}, {5, 0, 2, 0}, {255, 0, 2, 1}, {0, 1, 1, 1}, {0, 2, 0, 1}, {1, 2, 0, 0}, {5, 1, 1, 0}, {5, 0, 2, 0}, {5, 0, 3, 0}, {5, 0, 3, 0}} {
		j.Note(1, x.event, 2, 3)
		if j.Count(0) != x.zero || j.Count(5) != x.five || j.Count(255) != x.top || j.Count(77) != 0 || j.Count(254) != 0 {
			t.Errorf("after %d: %d of event 0, %d of event 5, %d of event 255", x.event, j.Count(0), j.Count(5), j.Count(255))
		}
	}
	// A Seq, a Time, a Grade or a Data is no event.
	j = made(t, 1)
	j.Note(2, 200, 3, 4)
	for event := range 256 {
		if got := j.Count(uint8(event)); got != 0 && event != 200 {
			t.Errorf("Count(%d) = %d", event, got)
		}
	}
}

// TestSince: each Seq that there is, that was lost, and that there isn't yet.
func TestSince(t *testing.T) {
	for room := 1; room <= api.MaxLog; room++ {
		for _, n := range []int{0, 1, room - 1, room, room + 1, 3*room + 1} {
			j := noted(t, room, n)
			for seq := range n + 4 {
				are(t, "Since", j.Since(uint32(seq)), nths(max(seq+1, n-room+1), n))
			}
			for bit := 6; bit < 32; bit++ {
				are(t, "Since a great one", j.Since(1<<bit), nil)
			}
		}
	}
}

// TestLostStays: at 65535, where the numbers and the rest go on.
func TestLostStays(t *testing.T) {
	for _, room := range []int{1, 3, api.MaxLog} {
		j := noted(t, room, room)
		for n := 1; n <= 65540; n++ {
			notes(t, j, nth(room+n))
			if want := min(n, 65535); j.Lost() != want {
				t.Fatalf("Lost %d after %d", j.Lost(), n)
			}
		}
		holds(t, j, 65535, nths(65541, 65540+room)...)
	}
}

// TestManySeqs: numbers follow one another far beyond what two bytes hold.
func TestManySeqs(t *testing.T) {
	j := made(t, 2)
	for n := range uint32(300000) {
		if e := j.Note(0, 0, 0, 0); e.Seq != n+1 {
			t.Fatalf("the %d-th has Seq %d", n+1, e.Seq)
		}
	}
	holds(t, j, 65535, entry{Seq: 299999}, entry{Seq: 300000})
}

func TestNil(t *testing.T) {
	var j *journal.Journal
	for range 2 {
		holds(t, j, 0)
		for _, grade := range []uint8{0, 3, 4, 255} {
			if e := j.Note(1, 2, grade, 3); e != (entry{}) {
				t.Error("Note", e)
			}
		}
	}
}

// TestTwo: two journals don't touch each other.
func TestTwo(t *testing.T) {
	one, two := made(t, 2), made(t, 2)
	notes(t, one, nths(1, 5)...)
	holds(t, two, 0)
	notes(t, two, nth(1))
	holds(t, one, 3, nths(4, 5)...)
	holds(t, two, 0, nth(1))
	notes(t, one, nth(6))
	holds(t, one, 4, nths(5, 6)...)
	holds(t, two, 0, nth(1))
}

// overwrite overwrites a list, and what capacity it has to spare.
func overwrite(l []entry) {
	l = l[:cap(l)]
	for i := range l {
		l[i] = entry{Seq: 999, Time: 999, Event: 99, Grade: 9, Data: 999}
	}
}

// TestMemory: what All and Since return is the caller's.
func TestMemory(t *testing.T) {
	for n := range 10 {
		j := noted(t, 5, n)
		first := max(1, n-4)
		want := nths(first, n)
		lists := [][]entry{j.All(), j.Since(0), j.All(), j.Since(0)}
		for i, l := range lists {
			are(t, "a list", l, want)
			overwrite(l)
			holds(t, j, first-1, want...)
			for _, other := range lists[i+1:] {
				are(t, "another list", other, want)
			}
		}
		// Nor does a later Note change anything in it.
		all, since := j.All(), j.Since(uint32(first))
		notes(t, j, nths(n+1, n+7)...)
		are(t, "All before", all, want)
		are(t, "Since before", since, nths(first+1, n))
		overwrite(append(all, nth(1)))
		overwrite(append(since, nth(1)))
		holds(t, j, n+2, nths(n+3, n+7)...)
	}
}

// TestAsksChangeNothing: asking, however often, changes nothing.
func TestAsksChangeNothing(t *testing.T) {
	j := noted(t, 3, 7)
	for range 3 {
		holds(t, j, 4, nths(5, 7)...)
	}
	notes(t, j, nth(8))
	holds(t, j, 5, nths(6, 8)...)
}

// laid are the bytes of a report's data.
func laid(e entry) []byte {
	p := []byte{e.Event}
	for _, n := range []uint32{e.Seq, e.Time, e.Data} {
		p = binary.BigEndian.AppendUint32(p, n)
	}
	return p
}

// TestReportExample: bytes written out.
func TestReportExample(t *testing.T) {
	sub, p := entry{Seq: 0x02030405, Time: 0x06070809, Event: 1, Grade: journal.Medium, Data: 0x0a0b0c0d}.Report()
	if sub != 3 || !slices.Equal(p, []byte{1, 2, 3, 4, 5, 6, 7, 8, 9, 10, 11, 12, 13}) {
		t.Errorf("Report = %d, %x", sub, p)
	}
	e, err := journal.Parse(1, []byte{255, 0, 0, 0, 1, 0, 0, 1, 0, 0, 1, 0, 0})
	if err != api.OK || e != (entry{Seq: 1, Time: 256, Event: 255, Grade: journal.Info, Data: 65536}) {
		t.Errorf("Parse = %v, %d", e, err)
	}
}

// TestReport: back and forth.
func TestReport(t *testing.T) {
	numbers := []uint32{0, 1, 255, 256, 65535, 65536, 1<<24 - 1, 1 << 24, math.MaxInt32, 1 << 31, math.MaxUint32 - 1, math.MaxUint32}
	for _, seq := range numbers {
		for _, time := range numbers {
			for _, data := range numbers {
				for grade := range uint8(4) {
					back(t, entry{Seq: seq, Time: time, Event: uint8(seq ^ time ^ data), Grade: grade, Data: data})
				}
			}
		}
	}
	for event := range 256 {
		for grade := range uint8(4) {
			back(t, entry{Seq: 1, Event: uint8(event), Grade: grade})
		}
	}
	// What a journal returns, too, also for a grade that counts as another one.
	j := made(t, 16)
	for n := range 40 {
		back(t, j.Note(uint32(n)<<20, uint8(n), uint8(n), uint32(n)<<8))
	}
	for _, e := range j.All() {
		back(t, e)
	}
}

// back checks the report of an entry whose grade there is, and that parsing it
// gives the entry again.
func back(t *testing.T, e entry) {
	t.Helper()
	sub, p := e.Report()
	if sub != e.Grade+1 || !slices.Equal(p, laid(e)) {
		t.Errorf("Report of %v = %d, %x", e, sub, p)
	}
	again, err := journal.Parse(sub, p)
	if again != e || err != api.OK {
		t.Errorf("Parse of %v's = %v, %d", e, again, err)
	}
	if !slices.Equal(p, laid(e)) {
		t.Errorf("Parse changed the bytes of %v", e)
	}
}

// TestReportGrade: the sub is the Grade + 1 also where there is no such grade;
// it isn't parsed back.
func TestReportGrade(t *testing.T) {
	for grade := 4; grade < 256; grade++ {
		e := entry{Seq: 4, Time: 3, Event: 2, Grade: uint8(grade), Data: 1}
		sub, p := e.Report()
		if sub != byte(grade+1) || !slices.Equal(p, laid(e)) {
			t.Errorf("Report of %v = %d, %x", e, sub, p)
		}
		if again, err := journal.Parse(sub, p); err != api.ErrArg || again != (entry{}) {
			t.Errorf("Parse(%d) = %v, %d", sub, again, err)
		}
	}
}

// TestReportMemory: each Report is new memory.
func TestReportMemory(t *testing.T) {
	e := nth(7)
	_, one := e.Report()
	_, two := e.Report()
	for i := range one[:cap(one)] {
		one[:cap(one)][i] = 0xee
	}
	_, three := e.Report()
	if !slices.Equal(two, laid(e)) || !slices.Equal(three, laid(e)) {
		t.Errorf("Reports share memory: %x, %x", two, three)
	}
}

// TestParse: each sub with each number of bytes.
func TestParse(t *testing.T) {
	whole := make([]byte, 300)
	for i := range whole {
		whole[i] = byte(i*37 + 11)
	}
	p := slices.Clone(whole)
	want := entry{Seq: binary.BigEndian.Uint32(p[1:]), Time: binary.BigEndian.Uint32(p[5:]), Event: p[0], Data: binary.BigEndian.Uint32(p[9:])}
	for sub := range 256 {
		for n := range 300 {
			e, err := journal.Parse(byte(sub), p[:n])
			switch {
			case sub < 1 || sub > 4:
				if err != api.ErrArg || e != (entry{}) {
					t.Errorf("Parse(%d) of %d bytes = %v, %d, want ErrArg", sub, n, e, err)
				}
			case n != 13:
				if err != api.ErrForm || e != (entry{}) {
					t.Errorf("Parse(%d) of %d bytes = %v, %d, want ErrForm", sub, n, e, err)
				}
			default:
				want.Grade = uint8(sub - 1)
				if err != api.OK || e != want {
					t.Errorf("Parse(%d) = %v, %d, want %v", sub, e, err, want)
				}
			}
		}
		e, err := journal.Parse(byte(sub), nil)
		if (err != api.ErrForm) != (sub < 1 || sub > 4) || err == api.OK || e != (entry{}) {
			t.Errorf("Parse(%d) of nil = %v, %d", sub, e, err)
		}
	}
	if !slices.Equal(p, whole) {
		t.Error("Parse changed the bytes")
	}
}

// plain is a journal as the document tells it: all that was ever noted.
type plain struct {
	room int
	l    []entry
}

func (p *plain) note(time uint32, event, grade uint8, data uint32) entry {
	if grade > 3 {
		grade = 3
	}
	e := entry{Seq: uint32(len(p.l) + 1), Time: time, Event: event, Grade: grade, Data: data}
	p.l = append(p.l, e)
	return e
}

// draws gives numbers below n, the same ones in each run.
func draws(seed uint32) func(n int) int {
	return func(n int) int {
		seed = seed*1664525 + 1013904223
		return int(seed>>8) % n
	}
}

// TestAgainstPlain drives journals of each room, of which two at a time go on
// side by side.
func TestAgainstPlain(t *testing.T) {
	for room := 1; room <= api.MaxLog; room++ {
		rooms := []int{room, 17 - room}
		js := []*journal.Journal{made(t, rooms[0]), made(t, rooms[1])}
		ps := []*plain{{room: rooms[0]}, {room: rooms[1]}}
		draw := draws(uint32(room))
		for step := range 300 {
			which := draw(2)
			time, event, grade, data := uint32(draw(1<<24))<<8, uint8(draw(6)), uint8(draw(8)), uint32(draw(1<<24))
			if got, want := js[which].Note(time, event, grade, data), ps[which].note(time, event, grade, data); got != want {
				t.Fatalf("room %d, step %d: Note %v, want %v", room, step, got, want)
			}
			for i, p := range ps {
				lost := max(0, len(p.l)-p.room)
				holds(t, js[i], lost, p.l[lost:]...)
			}
			if t.Failed() {
				t.Fatalf("room %d, step %d", room, step)
			}
		}
	}
}
