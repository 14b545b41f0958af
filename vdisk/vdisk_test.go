package vdisk_test

import (
	"bytes"
	"go/ast"
	"go/parser"
	"go/token"
	"math"
	"math/rand"
	"slices"
	"strings"
	"testing"

	"ogive/api"
	"ogive/vdisk"
)

// zeros is a sector that nothing was written to.
var zeros = strings.Repeat("\x00", 64)

// nowhere are places where no disk has a sector.
var nowhere = []int{math.MinInt64, -1 << 32, -1024, -65, -64, -2, -1, 1024, 1025, 1 << 16, 1 << 32, math.MaxInt64}

// someBytes are what may be written: nothing, less than a sector, with zeros at their begin and at their end, and just a sector.
func someBytes() []string {
	return []string{"", "\x00", "a", "ab", "\x00b\x00", "\xff\x80", strings.Repeat("c", 63), strings.Repeat("d", 64), zeros, strings.Repeat("\xff", 64),
		zeros[:63] + "e", "f" + zeros[:62]}
}

// tooLong are what no sector has room for.
func tooLong() []string {
	return []string{strings.Repeat("x", 65), zeros + "\x00", strings.Repeat("y", 128), strings.Repeat("z", 100000)}
}

// padded is what a sector has behind a write of s.
func padded(s string) string {
	return s + zeros[len(s):]
}

// newDisk is a disk with writes done in turn, of which none is synced.
func newDisk(t *testing.T, secs int, writes ...stroke) *vdisk.Disk {
	t.Helper()
	d := vdisk.New(secs)
	if d == nil {
		t.Fatalf("New(%d) = nil", secs)
	}
	write(t, d, writes...)
	return d
}

// A stroke is a write that should be done.
type stroke struct {
	at int
	s  string
}

func write(t *testing.T, d *vdisk.Disk, writes ...stroke) {
	t.Helper()
	for _, w := range writes {
		if e := d.Write(w.at, []byte(w.s)); e != api.OK {
			t.Fatalf("Write(%d, %q) = %d", w.at, w.s, e)
		}
	}
}

// wantDisk is given what each sector is read as, without the zeros at its end.
func wantDisk(t *testing.T, what string, d *vdisk.Disk, pending int, sectors ...string) {
	t.Helper()
	if d == nil {
		t.Errorf("%s: nil", what)
		return
	}
	if d.Len() != len(sectors) || d.Pending() != pending {
		t.Errorf("%s: Len() = %d, Pending() = %d, want %d, %d", what, d.Len(), d.Pending(), len(sectors), pending)
	}
	for at, s := range sectors {
		if b, e := d.Read(at); e != api.OK || string(b) != padded(s) {
			t.Errorf("%s: Read(%d) = %q, %d, want %q", what, at, b, e, s)
		}
	}
}

// P4.1: New.

func TestNewTellsNilOfNumbersThatMayNotBe(t *testing.T) {
	for _, secs := range []int{math.MinInt64, -1024, -2, -1, 0, 1025, 1026, 2048, 1 << 16, 1 << 32, 1<<32 + 1, math.MaxInt64} {
		if d := vdisk.New(secs); d != nil {
			t.Errorf("New(%d) isn't nil", secs)
		}
	}
}

func TestNewIsSectorsOfZeros(t *testing.T) {
	for _, secs := range []int{1, 2, 3, 63, 64, 65, 1023, 1024} {
		d := newDisk(t, secs)
		wantDisk(t, "new", d, 0, make([]string, secs)...)
		for _, at := range []int{secs, secs + 1} {
			if b, e := d.Read(at); e != api.ErrBound || len(b) != 0 {
				t.Errorf("of %d sectors: Read(%d) = %q, %d", secs, at, b, e)
			}
		}
	}
}

func TestNewDisksShareNothing(t *testing.T) {
	a, b := newDisk(t, 2), newDisk(t, 2)
	write(t, a, stroke{0, "a"}, stroke{1, "b"})
	wantDisk(t, "the other one, not synced", b, 0, "", "")
	a.Sync()
	wantDisk(t, "the other one, synced", b, 0, "", "")
	wantDisk(t, "a third one", newDisk(t, 2), 0, "", "")
}

// P4.1: Write.

func TestWriteLaysZerosBehind(t *testing.T) {
	for _, s := range someBytes() {
		d := newDisk(t, 3, stroke{1, strings.Repeat("\xee", 64)})
		d.Sync()
		write(t, d, stroke{1, s})
		wantDisk(t, "written", d, 1, "", s, "")
		d.Sync()
		wantDisk(t, "synced", d, 0, "", s, "")
	}
}

func TestWriteOfEveryLength(t *testing.T) {
	for n := range 200 {
		d := newDisk(t, 1, stroke{0, "before"})
		s, want := strings.Repeat("\xab", n), "before"
		e, wantE, pending := d.Write(0, []byte(s)), api.ErrArg, 1
		if n <= 64 {
			want, wantE, pending = s, api.OK, 2
		}
		if e != wantE {
			t.Errorf("Write of %d bytes = %d, want %d", n, e, wantE)
		}
		wantDisk(t, "written", d, pending, want)
	}
}

func TestWriteOfNilIsWriteOfZeros(t *testing.T) {
	for _, b := range [][]byte{nil, {}} {
		d := newDisk(t, 1, stroke{0, "a"})
		if e := d.Write(0, b); e != api.OK {
			t.Errorf("Write(0, %#v) = %d", b, e)
		}
		wantDisk(t, "written", d, 2, "")
		d.Sync()
		wantDisk(t, "synced", d, 0, "")
	}
}

func TestWriteAtEachSectorIsOfThatOne(t *testing.T) {
	for _, secs := range []int{1, 2, 5, 1024} {
		for _, at := range []int{0, secs / 2, secs - 1} {
			d := newDisk(t, secs, stroke{at, "here"})
			want := make([]string, secs)
			want[at] = "here"
			wantDisk(t, "written", d, 1, want...)
			d.Sync()
			wantDisk(t, "synced", d, 0, want...)
		}
	}
}

func TestWriteOnWhatWasWrittenLeavesNothingOfIt(t *testing.T) {
	d := newDisk(t, 1, stroke{0, strings.Repeat("a", 64)}, stroke{0, "b"})
	wantDisk(t, "written", d, 2, "b")
	d.Sync()
	wantDisk(t, "synced", d, 0, "b")
}

// P4.1 and R1: where several errors apply it is ErrBound, and nothing is changed.
func TestWriteFailsWithoutChange(t *testing.T) {
	d := newDisk(t, 3, stroke{0, "a"}, stroke{1, "b"})
	d.Sync()
	write(t, d, stroke{1, "c"}, stroke{2, "d"})
	wantSame := func(what string) {
		t.Helper()
		wantDisk(t, what, d, 2, "a", "c", "d")
		lost := d.Copy()
		lost.Crash(nil)
		wantDisk(t, what+", crashed", lost, 0, "a", "b", "")
	}
	for _, at := range append(slices.Clone(nowhere), 3, 4) {
		for _, s := range append(someBytes(), tooLong()...) {
			if e := d.Write(at, []byte(s)); e != api.ErrBound {
				t.Errorf("Write(%d, %d bytes) = %d, want ErrBound", at, len(s), e)
			}
		}
		wantSame("behind ErrBound")
	}
	for at := range 3 {
		for _, s := range tooLong() {
			if e := d.Write(at, []byte(s)); e != api.ErrArg {
				t.Errorf("Write(%d, %d bytes) = %d, want ErrArg", at, len(s), e)
			}
		}
		wantSame("behind ErrArg")
	}
}

// P4.1: Read.

func TestReadWhereThereIsNoSector(t *testing.T) {
	for _, secs := range []int{1, 3, 1024} {
		d := newDisk(t, secs, stroke{0, "a"}, stroke{secs - 1, "b"})
		for _, at := range append(slices.Clone(nowhere), secs, secs+1) {
			if b, e := d.Read(at); e != api.ErrBound || len(b) != 0 {
				t.Errorf("of %d sectors: Read(%d) = %q, %d", secs, at, b, e)
			}
		}
	}
}

func TestReadTellsTheLastWrite(t *testing.T) {
	d := newDisk(t, 3)
	wantDisk(t, "no write", d, 0, "", "", "")
	write(t, d, stroke{1, "first"})
	wantDisk(t, "one write", d, 1, "", "first", "")
	write(t, d, stroke{1, "second"}, stroke{2, "other"}, stroke{1, "3"}, stroke{0, "more"})
	wantDisk(t, "several writes", d, 5, "more", "3", "other")
	d.Sync()
	wantDisk(t, "synced", d, 0, "more", "3", "other")
	write(t, d, stroke{2, ""})
	wantDisk(t, "one behind the sync", d, 1, "more", "3", "")
	write(t, d, stroke{1, "first"})
	wantDisk(t, "what had been there", d, 2, "more", "first", "")
}

// P4.1 and R1: reading changes nothing.
func TestReadAgain(t *testing.T) {
	d := newDisk(t, 2, stroke{0, "a"})
	for range 3 {
		wantDisk(t, "read", d, 1, "a", "")
	}
	d.Crash(nil)
	wantDisk(t, "crashed", d, 0, "", "")
}

// R3: what is read is the caller's own, be it of a sector or of the row.
func TestReadIsTheCallersOwn(t *testing.T) {
	d := newDisk(t, 2, stroke{0, "synced"})
	d.Sync()
	write(t, d, stroke{1, "in the row"})
	for at := range 2 {
		one, _ := d.Read(at)
		other, _ := d.Read(at)
		for i := range one {
			one[i] = 0xee
		}
		_ = append(one, "behind"...)
		_ = append(one[:0], "ahead"...)
		if strings.Contains(string(other), "\xee") {
			t.Errorf("Read(%d) twice shares bytes", at)
		}
		wantDisk(t, "behind a change of what was read", d, 1, "synced", "in the row")
	}
	d.Sync()
	wantDisk(t, "synced", d, 0, "synced", "in the row")
	if b, _ := d.Read(1); len(b) != 64 {
		t.Errorf("Read(1) has %d bytes", len(b))
	}
}

// R3: what is read stays as it was, whatever is done to the disk then.
func TestReadStays(t *testing.T) {
	d := newDisk(t, 1, stroke{0, "a"})
	row, _ := d.Read(0)
	d.Sync()
	synced, _ := d.Read(0)
	write(t, d, stroke{0, "b"})
	d.Sync()
	write(t, d, stroke{0, "c"})
	if string(row) != padded("a") || string(synced) != padded("a") {
		t.Errorf("what was read is %q, %q now", row, synced)
	}
}

// R3: what is handed in stays, and isn't shared.
func TestWriteSharesNothing(t *testing.T) {
	d := newDisk(t, 2)
	whole := []byte(strings.Repeat("w", 64) + "behind")
	for at, b := range [][]byte{whole[:3:64], whole[:64]} {
		was := bytes.Clone(whole)
		if e := d.Write(at, b); e != api.OK {
			t.Fatalf("Write = %d", e)
		}
		if !bytes.Equal(whole, was) {
			t.Errorf("Write changed what was handed in: %q", whole)
		}
	}
	for i := range whole {
		whole[i] = 0xee
	}
	wantDisk(t, "written", d, 2, "www", strings.Repeat("w", 64))
	d.Sync()
	wantDisk(t, "synced", d, 0, "www", strings.Repeat("w", 64))
	if strings.Trim(string(whole), "\xee") != "" {
		t.Errorf("Sync changed what was handed in: %q", whole)
	}
}

// R3: nor does the disk write to it at a later write.
func TestWriteOfOneSliceAgainAndAgain(t *testing.T) {
	d, b := newDisk(t, 1), make([]byte, 1)
	for i := range 10 {
		b[0] = byte('a' + i)
		if e := d.Write(0, b); e != api.OK {
			t.Fatalf("Write = %d", e)
		}
	}
	for i := range 10 {
		c, keep := d.Copy(), make([]bool, 10)
		keep[i] = true
		c.Crash(keep)
		wantDisk(t, "one kept", c, 0, string(rune('a'+i)))
	}
}

// P4.2: Sync.

func TestSyncDoesTheWritesInTurn(t *testing.T) {
	d := newDisk(t, 4, stroke{2, "a"}, stroke{0, "b"}, stroke{2, "c"}, stroke{3, "d"}, stroke{2, "e"}, stroke{0, ""})
	wantDisk(t, "written", d, 6, "", "", "e", "d")
	d.Sync()
	wantDisk(t, "synced", d, 0, "", "", "e", "d")
	d.Crash([]bool{true, true, true, true, true, true})
	wantDisk(t, "crashed with no row", d, 0, "", "", "e", "d")
}

func TestSyncOfAnEmptyRow(t *testing.T) {
	d := newDisk(t, 2)
	d.Sync()
	wantDisk(t, "new", d, 0, "", "")
	write(t, d, stroke{0, "a"})
	d.Sync()
	d.Sync()
	wantDisk(t, "synced twice", d, 0, "a", "")
}

// P4.2: Crash.

func TestCrashWithKeep(t *testing.T) {
	yes, no := true, false
	for _, c := range []struct {
		what string
		keep []bool
		want []string
	}{
		{"nil", nil, []string{"old0", "old1", ""}},
		{"empty", []bool{}, []string{"old0", "old1", ""}},
		{"none", []bool{no, no, no, no, no}, []string{"old0", "old1", ""}},
		{"all", []bool{yes, yes, yes, yes, yes}, []string{"a2", "b2", "c"}},
		{"longer, none in the row", []bool{no, no, no, no, no, yes, yes}, []string{"old0", "old1", ""}},
		{"longer, all", []bool{yes, yes, yes, yes, yes, no, no, yes}, []string{"a2", "b2", "c"}},
		{"the first", []bool{yes}, []string{"a1", "old1", ""}},
		{"shorter, the last lost", []bool{yes, yes, yes, yes}, []string{"a2", "b1", "c"}},
		{"shorter, the later one of a sector lost", []bool{yes, yes, yes}, []string{"a1", "b1", "c"}},
		{"the last", []bool{no, no, no, no, yes}, []string{"old0", "b2", ""}},
		{"the later ones", []bool{no, no, no, yes, yes}, []string{"a2", "b2", ""}},
		{"the earlier ones", []bool{yes, yes, no, no, no}, []string{"a1", "b1", ""}},
		{"the middle one", []bool{no, no, yes, no, no}, []string{"old0", "old1", "c"}},
		{"every other one", []bool{yes, no, yes, no, yes}, []string{"a1", "b2", "c"}},
		{"the other ones", []bool{no, yes, no, yes, no}, []string{"a2", "b1", ""}},
	} {
		d := newDisk(t, 3, stroke{0, "old0"}, stroke{1, "old1"})
		d.Sync()
		write(t, d, stroke{0, "a1"}, stroke{1, "b1"}, stroke{2, "c"}, stroke{0, "a2"}, stroke{1, "b2"})
		keep := slices.Clone(c.keep)
		d.Crash(keep)
		wantDisk(t, c.what, d, 0, c.want...)
		if !slices.Equal(keep, c.keep) {
			t.Errorf("%s: Crash changed keep: %v", c.what, keep)
		}
		d.Sync()
		wantDisk(t, c.what+", synced", d, 0, c.want...)
		d.Crash([]bool{yes, yes, yes, yes, yes})
		wantDisk(t, c.what+", crashed again", d, 0, c.want...)
	}
}

// P4.2: places are those in the row, not those of sectors, and begin anew when the row is empty.
func TestCrashCountsPlacesFromTheRowsBegin(t *testing.T) {
	d := newDisk(t, 5, stroke{4, "a"}, stroke{3, "b"})
	d.Sync()
	write(t, d, stroke{4, "c"}, stroke{1, "d"})
	d.Crash([]bool{true})
	wantDisk(t, "behind a sync", d, 0, "", "", "", "b", "c")
	write(t, d, stroke{2, "e"}, stroke{0, "f"})
	d.Crash([]bool{false, true})
	wantDisk(t, "behind a crash", d, 0, "f", "", "", "b", "c")
}

// P4.2: a write that isn't let in has no place in the row.
func TestCrashCountsNoFailedWrite(t *testing.T) {
	d := newDisk(t, 2)
	d.Write(2, []byte("x"))
	d.Write(0, []byte(strings.Repeat("x", 65)))
	write(t, d, stroke{0, "a"})
	d.Write(-1, nil)
	write(t, d, stroke{1, "b"})
	d.Crash([]bool{false, true})
	wantDisk(t, "crashed", d, 0, "", "b")
}

func TestWrittenNotSyncedAndCrashedWithoutKeeping(t *testing.T) {
	d := newDisk(t, 1, stroke{0, "gone"})
	d.Crash(nil)
	wantDisk(t, "crashed", d, 0, "")
}

// P4.2: Len and Pending.

func TestPendingCountsEveryWrite(t *testing.T) {
	d := newDisk(t, 2)
	for i := range 3000 {
		if d.Pending() != i || d.Len() != 2 {
			t.Fatalf("behind %d writes: Pending() = %d, Len() = %d", i, d.Pending(), d.Len())
		}
		write(t, d, stroke{i % 2, "same"})
	}
	c := d.Copy()
	d.Sync()
	c.Crash(nil)
	if d.Pending() != 0 || c.Pending() != 0 || d.Len() != 2 || c.Len() != 2 {
		t.Errorf("Pending() = %d, %d, Len() = %d, %d", d.Pending(), c.Pending(), d.Len(), c.Len())
	}
}

// P4.2: Copy.

func TestCopyHasTheSameSectorsAndRow(t *testing.T) {
	d := newDisk(t, 3, stroke{0, "a"}, stroke{1, "b"})
	d.Sync()
	wantDisk(t, "a copy with no row", d.Copy(), 0, "a", "b", "")
	write(t, d, stroke{1, "c"}, stroke{2, "d"}, stroke{1, "e"})
	for _, c := range []struct {
		what string
		do   func(*vdisk.Disk)
		left int
		want []string
	}{
		{"as it is", func(*vdisk.Disk) {}, 3, []string{"a", "e", "d"}},
		{"synced", (*vdisk.Disk).Sync, 0, []string{"a", "e", "d"}},
		{"crashed", func(d *vdisk.Disk) { d.Crash(nil) }, 0, []string{"a", "b", ""}},
		{"the first kept", func(d *vdisk.Disk) { d.Crash([]bool{true}) }, 0, []string{"a", "c", ""}},
		{"the second kept", func(d *vdisk.Disk) { d.Crash([]bool{false, true}) }, 0, []string{"a", "b", "d"}},
		{"the third kept", func(d *vdisk.Disk) { d.Crash([]bool{false, false, true}) }, 0, []string{"a", "e", ""}},
		{"written", func(d *vdisk.Disk) { d.Write(0, []byte("f")) }, 4, []string{"f", "e", "d"}},
	} {
		one := d.Copy()
		c.do(one)
		wantDisk(t, c.what+": the copy", one, c.left, c.want...)
		wantDisk(t, c.what+": the disk", d, 3, "a", "e", "d")
		two := d.Copy()
		again := two.Copy()
		c.do(two)
		wantDisk(t, c.what+": what was copied", two, c.left, c.want...)
		wantDisk(t, c.what+": its copy", again, 3, "a", "e", "d")
	}
	d.Crash(nil)
	wantDisk(t, "the disk, crashed", d, 0, "a", "b", "")
}

// P4.2 and R3: rows that begin alike go on apart, whichever of the two is written to first, and however long they are.
func TestCopyRowsGoOnApart(t *testing.T) {
	for n := range 20 {
		d := newDisk(t, 1)
		for range n {
			write(t, d, stroke{0, "both"})
		}
		c := d.Copy()
		write(t, d, stroke{0, "disk"})
		write(t, c, stroke{0, "copy"})
		wantDisk(t, "the disk", d, n+1, "disk")
		wantDisk(t, "the copy", c, n+1, "copy")
		d.Sync()
		wantDisk(t, "the copy, the disk synced", c, n+1, "copy")
		c.Sync()
		wantDisk(t, "the disk, synced", d, 0, "disk")
		wantDisk(t, "the copy, synced", c, 0, "copy")
	}
}

// P4.2 and R3: synced sectors aren't shared either.
func TestCopySectorsGoOnApart(t *testing.T) {
	d := newDisk(t, 2, stroke{0, "a"}, stroke{1, "b"})
	d.Sync()
	c := d.Copy()
	write(t, d, stroke{0, "disk"})
	d.Sync()
	wantDisk(t, "the copy", c, 0, "a", "b")
	write(t, c, stroke{1, "copy"})
	c.Crash([]bool{true})
	wantDisk(t, "the disk", d, 0, "disk", "b")
	wantDisk(t, "the copy, crashed", c, 0, "a", "copy")
}

// P4.2: a Disk that is nil.
func TestNilDisk(t *testing.T) {
	var d *vdisk.Disk
	for _, at := range append(slices.Clone(nowhere), 0, 1) {
		for _, s := range append(someBytes(), tooLong()...) {
			if e := d.Write(at, []byte(s)); e != api.ErrBound {
				t.Errorf("Write(%d, %d bytes) = %d", at, len(s), e)
			}
		}
		if b, e := d.Read(at); e != api.ErrBound || len(b) != 0 {
			t.Errorf("Read(%d) = %q, %d", at, b, e)
		}
	}
	d.Sync()
	for _, keep := range [][]bool{nil, {}, {true}, {false, true}} {
		d.Crash(keep)
	}
	if d.Len() != 0 || d.Pending() != 0 || d.Copy() != nil {
		t.Errorf("Len() = %d, Pending() = %d, Copy() = %v", d.Len(), d.Pending(), d.Copy())
	}
}

// P4.3: what was synced stays.

func TestSyncedStays(t *testing.T) {
	for _, keep := range [][]bool{nil, {false, false, false}, {true}, {true, true, true, true}} {
		d := newDisk(t, 4, stroke{1, "stays"})
		d.Sync()
		for range 3 {
			write(t, d, stroke{0, "x"}, stroke{2, strings.Repeat("y", 64)}, stroke{3, "z"})
			d.Crash(keep)
			if b, e := d.Read(1); e != api.OK || string(b) != padded("stays") {
				t.Errorf("keep %v: Read(1) = %q, %d", keep, b, e)
			}
			d.Sync()
			d.Write(1, []byte(strings.Repeat("w", 65)))
			d.Write(4, []byte("w"))
			write(t, d, stroke{1, "lost"})
			d.Crash(nil)
			if b, e := d.Read(1); e != api.OK || string(b) != padded("stays") {
				t.Errorf("keep %v, written and crashed: Read(1) = %q, %d", keep, b, e)
			}
		}
	}
}

// P4.3: behind a crash a sector has what it had, or what was written to it, and nothing of two.
func TestSectorIsNeverTorn(t *testing.T) {
	texts := someBytes()
	for _, old := range texts {
		for _, first := range texts {
			for _, second := range texts {
				for bits := range 4 {
					d := newDisk(t, 1, stroke{0, old})
					d.Sync()
					write(t, d, stroke{0, first}, stroke{0, second})
					d.Crash([]bool{bits&1 != 0, bits&2 != 0})
					wantDisk(t, "crashed", d, 0, []string{old, first, second, second}[bits])
				}
			}
		}
	}
}

// A plain is a disk in the chapter's words: sectors, and a row of writes, each the whole text that the sector has then.
type plain struct {
	sectors []string
	row     []stroke
}

func newPlain(secs int) *plain {
	p := &plain{}
	for range secs {
		p.sectors = append(p.sectors, zeros)
	}
	return p
}

func (p *plain) write(at int, s string) api.Errno {
	if at < 0 || at >= len(p.sectors) {
		return api.ErrBound
	}
	if len(s) > 64 {
		return api.ErrArg
	}
	p.row = append(p.row, stroke{at, padded(s)})
	return api.OK
}

func (p *plain) read(at int) string {
	s := p.sectors[at]
	for _, w := range p.row {
		if w.at == at {
			s = w.s
		}
	}
	return s
}

func (p *plain) crash(keep []bool) {
	for i, w := range p.row {
		if i < len(keep) && keep[i] {
			p.sectors[w.at] = w.s
		}
	}
	p.row = nil
}

func (p *plain) sync() {
	for _, w := range p.row {
		p.sectors[w.at] = w.s
	}
	p.row = nil
}

func (p *plain) copy() *plain {
	return &plain{sectors: slices.Clone(p.sectors), row: slices.Clone(p.row)}
}

// A pair is a disk, and what the chapter's words make of all that was done to it.
type pair struct {
	d *vdisk.Disk
	p *plain
}

func (x pair) check(t *testing.T) {
	t.Helper()
	want := make([]string, len(x.p.sectors))
	for at := range want {
		want[at] = x.p.read(at)
	}
	wantDisk(t, "in the chapter's words", x.d, len(x.p.row), want...)
}

// do reads what is to be done from bytes, one call at a time, and does it to one of the pairs; a copy stands behind them.
func do(t *testing.T, pairs []pair, next func() int) []pair {
	x := &pairs[next()%len(pairs)]
	switch next() % 12 {
	case 0:
		x.d.Sync()
		x.p.sync()
	case 1:
		keep := make([]bool, next()%12)
		for i := range keep {
			keep[i] = next()%2 == 0
		}
		x.d.Crash(keep)
		x.p.crash(keep)
	case 2:
		c := pair{x.d.Copy(), x.p.copy()}
		if len(pairs) < 4 {
			return append(pairs, c)
		}
		*x = c
	default:
		at, s := next()%6-1, strings.Repeat(string([]byte{byte(next())}), next()%68)
		if e, want := x.d.Write(at, []byte(s)), x.p.write(at, s); e != want {
			t.Errorf("Write(%d, %q) = %d, want %d", at, s, e, want)
		}
	}
	return pairs
}

// P4.1 to P4.3: whatever is done, in whatever order, to a disk and to copies of it, they are as the chapter's words say.
func TestWhateverIsDone(t *testing.T) {
	for seed := range 40 {
		r := rand.New(rand.NewSource(int64(seed)))
		pairs := []pair{{newDisk(t, 4), newPlain(4)}}
		for range 400 {
			pairs = do(t, pairs, func() int { return r.Intn(256) })
			for _, x := range pairs {
				x.check(t)
			}
			if t.Failed() {
				t.Fatalf("seed %d", seed)
			}
		}
	}
}

// P1: the same, of whatever bytes come.
func FuzzDisk(f *testing.F) {
	f.Add(1, []byte{})
	f.Add(4, []byte("\x00\x03\x01a\x05\x00\x03\x01b\x09\x00\x01\x02\x00\x01\x00\x02\x01\x03\x02c\x40"))
	f.Add(1024, []byte("\x00\x03\x05a\x41\x00\x00\x00\x02\x01\x01\x03\x00\x01\x00"))
	f.Add(0, []byte("\x00\x03\x01a\x05"))
	f.Fuzz(func(t *testing.T, secs int, b []byte) {
		d := vdisk.New(secs)
		if secs < 1 || secs > 1024 {
			if d != nil {
				t.Errorf("New(%d) isn't nil", secs)
			}
			return
		}
		pairs := []pair{{d, newPlain(secs)}}
		next := func() int {
			if len(b) == 0 {
				return 0
			}
			n := int(b[0])
			b = b[1:]
			return n
		}
		for len(b) > 0 {
			pairs = do(t, pairs, next)
		}
		for _, x := range pairs {
			x.check(t)
		}
	})
}

// R4 and R6: the package keeps nothing from call to call but in disks, and calls no layer.
func TestVdiskCallsNoLayer(t *testing.T) {
	file, err := parser.ParseFile(token.NewFileSet(), "vdisk.go", nil, 0)
	if err != nil {
		t.Fatal(err)
	}
	for _, i := range file.Imports {
		p := strings.Trim(i.Path.Value, `"`)
		if strings.HasPrefix(p, "ogive/") && p != "ogive/api" {
			t.Errorf("vdisk imports %s", p)
		}
	}
	for _, d := range file.Decls {
		if g, ok := d.(*ast.GenDecl); ok && g.Tok == token.VAR {
			t.Error("vdisk has a variable at package level")
		}
	}
}
