package slot_test

import (
	"bytes"
	"encoding/binary"
	"go/ast"
	"go/parser"
	"go/token"
	"hash/crc32"
	"math"
	"math/big"
	"math/rand"
	"slices"
	"strconv"
	"strings"
	"testing"

	"ogive/api"
	"ogive/slot"
	"ogive/vdisk"
)

const (
	least    = math.MinInt64
	greatest = math.MaxInt64
)

// gens are edges of numbers, even and odd ones, without 0.
var gens = []uint32{1, 2, 3, 4, 255, 256, 1<<16 - 1, 1 << 16, math.MaxInt32, 1 << 31, 1<<31 + 1, math.MaxUint32 - 1, math.MaxUint32}

// lengths are of checkpoints: with one frame, two and more, at the edges.
var lengths = []int{0, 1, 2, 49, 50, 51, 60, 99, 100, 101, 149, 150, 151, 199, 200}

// areas are some of a disk of 12 sectors, at its edges and inside it.
var areas = []slot.Area{{First: 0, Size: 6}, {First: 0, Size: 4}, {First: 1, Size: 4}, {First: 4, Size: 4}, {First: 2, Size: 5}}

// others are numbers of slots that there aren't.
var others = []int{-1, -2, -3, 2, 3, 4, 5, 255, 256, 257, 1 << 32, 1<<32 + 1, least, least + 1, greatest - 1, greatest}

// bad are areas that a disk of 12 sectors has none of.
var bad = []slot.Area{
	{First: -1, Size: 1}, {First: -1, Size: 4}, {First: -1, Size: 6}, {First: -4, Size: 4}, {First: -8, Size: 4}, {First: least, Size: 1}, {First: least, Size: greatest}, {First: least, Size: 1 << 62},
	{First: 0, Size: 0}, {First: 1, Size: 0}, {First: 11, Size: 0}, {First: 12, Size: 0}, {First: 0, Size: -1}, {First: 2, Size: -1}, {First: 8, Size: -4}, {First: 12, Size: -6}, {First: 0, Size: least}, {First: greatest, Size: least}, {First: greatest, Size: -greatest}, {First: 4, Size: least},
	{First: 0, Size: 7}, {First: 1, Size: 6}, {First: 5, Size: 4}, {First: 8, Size: 4}, {First: 9, Size: 4}, {First: 9, Size: 2}, {First: 10, Size: 2}, {First: 11, Size: 1}, {First: 12, Size: 1}, {First: 13, Size: 1}, {First: 0, Size: 12}, {First: 0, Size: 13}, {First: 1024, Size: 1},
	{First: 0, Size: greatest}, {First: 1, Size: greatest}, {First: greatest, Size: 1}, {First: greatest, Size: 2}, {First: greatest, Size: 6}, {First: greatest, Size: greatest}, {First: greatest - 7, Size: 4}, {First: greatest - 8, Size: 4},
	{First: 0, Size: 1 << 62}, {First: 1, Size: 1 << 62}, {First: 12, Size: 1 << 62}, {First: 0, Size: 1<<62 + 1}, {First: 4, Size: 1<<62 + 4}, {First: 0, Size: 1<<62 - 1}, {First: 2, Size: 1<<62 - 1}, {First: 1 << 62, Size: 1 << 61}, {First: 1 << 62, Size: 1 << 62},
	{First: 0, Size: 1 << 31}, {First: 0, Size: 1 << 32}, {First: 0, Size: 1<<32 + 4}, {First: 1 << 32, Size: 4}, {First: -1, Size: least}, {First: least, Size: least},
}

// A part is a frame of the chapters' words.
type part struct {
	epoch, seq uint32
	flag       byte
	body       string
}

// sector is a frame's sector in the words of its chapter.
func (f part) sector() string {
	b := binary.BigEndian.AppendUint32(nil, f.epoch)
	b = binary.BigEndian.AppendUint32(b, f.seq)
	b = append(b, f.flag, byte(len(f.body)))
	b = append(b, f.body...)
	for len(b) < 60 {
		b = append(b, 0)
	}
	return string(binary.BigEndian.AppendUint32(b, crc32.Checksum(b, crc32.MakeTable(crc32.Castagnoli))))
}

// partOf is the frame that a sector is, if it is one.
func partOf(s string) (part, bool) {
	b := []byte(s)
	if len(b) != 64 || b[9] > 50 {
		return part{}, false
	}
	f := part{binary.BigEndian.Uint32(b), binary.BigEndian.Uint32(b[4:]), b[8], s[10 : 10+int(b[9])]}
	return f, f.sector() == s
}

// cut is a text as frames of a number, in the words of their chapter.
func cut(gen uint32, text string) []part {
	var parts []part
	for rest := text; len(parts) == 0 || rest != ""; {
		n := min(50, len(rest))
		parts = append(parts, part{gen, uint32(len(parts)), 0, rest[:n]})
		rest = rest[n:]
	}
	parts[0].flag++
	parts[len(parts)-1].flag += 2
	return parts
}

// someText is n bytes, none of which is like its neighbours, beginning with a byte that hangs on from.
func someText(n int, from byte) string {
	b := make([]byte, n)
	for i := range b {
		b[i] = from + byte(i)*7
	}
	return string(b)
}

// junk is what a sector of junkDisk has: no frame, and unlike every other sector's.
func junk(at int) string {
	b := bytes.Repeat([]byte{0xee}, 64)
	binary.BigEndian.PutUint32(b, uint32(at))
	return string(b)
}

// junkDisk is a disk of synced sectors that are no frames, so that a write of any frame is seen.
func junkDisk(t *testing.T, secs int) *vdisk.Disk {
	t.Helper()
	d := vdisk.New(secs)
	if d == nil {
		t.Fatalf("vdisk.New(%d) = nil", secs)
	}
	for at := range secs {
		put(t, d, at, junk(at))
	}
	d.Sync()
	return d
}

func put(t *testing.T, d *vdisk.Disk, at int, s string) {
	t.Helper()
	if e := d.Write(at, []byte(s)); e != api.OK {
		t.Fatalf("Write(%d) = %d", at, e)
	}
}

// lay writes frames to the sectors from one on, as far as there are any.
func lay(t *testing.T, d *vdisk.Disk, first int, parts ...part) {
	t.Helper()
	for i, f := range parts {
		if at := first + i; at >= 0 && at < d.Len() {
			put(t, d, at, f.sector())
		}
	}
}

func sectorsOf(t *testing.T, d *vdisk.Disk) []string {
	t.Helper()
	var all []string
	for at := range d.Len() {
		b, e := d.Read(at)
		if e != api.OK {
			t.Fatalf("Read(%d) = %d", at, e)
		}
		all = append(all, string(b))
	}
	return all
}

// syncedOf is what a disk has behind a crash that keeps nothing.
func syncedOf(t *testing.T, d *vdisk.Disk) []string {
	t.Helper()
	d = d.Copy()
	d.Crash(nil)
	return sectorsOf(t, d)
}

// A stroke is a write of a whole sector.
type stroke struct {
	at int
	s  string
}

// A sector's bytes are no text, so a failure tells them quoted.
func (w stroke) String() string { return strconv.Itoa(w.at) + ": " + strconv.Quote(w.s) }

// rowOf is what was written to a disk and isn't synced, in turn: each write is seen by a crash that keeps it alone.
func rowOf(t *testing.T, d *vdisk.Disk) []stroke {
	t.Helper()
	var found []stroke
	was := syncedOf(t, d)
	for i := range d.Pending() {
		one, keep := d.Copy(), make([]bool, i+1)
		keep[i] = true
		one.Crash(keep)
		for at, s := range sectorsOf(t, one) {
			if s != was[at] {
				found = append(found, stroke{at, s})
			}
		}
	}
	return found
}

func save(t *testing.T, d *vdisk.Disk, a slot.Area, gen uint32, text string) {
	t.Helper()
	if e := slot.Save(d, a, gen, []byte(text)); e != api.OK {
		t.Fatalf("Save(%d sectors, %v, %d, %d bytes) = %d", d.Len(), a, gen, len(text), e)
	}
}

// wantNoSave asks a Save for an error, and that it leaves the disk, what is synced of it and what isn't.
func wantNoSave(t *testing.T, what string, d *vdisk.Disk, a slot.Area, gen uint32, b []byte, want api.Errno) {
	t.Helper()
	was := d.Copy()
	if e := slot.Save(d, a, gen, b); e != want {
		t.Errorf("%s: Save(%d sectors, %v, %d, %d bytes) = %d, want %d", what, d.Len(), a, gen, len(b), e, want)
	}
	wantSame(t, what, d, was)
}

func wantSame(t *testing.T, what string, d, was *vdisk.Disk) {
	t.Helper()
	if d.Pending() != was.Pending() || !slices.Equal(sectorsOf(t, d), sectorsOf(t, was)) || !slices.Equal(syncedOf(t, d), syncedOf(t, was)) {
		t.Errorf("%s: the disk is changed", what)
	}
}

// A point is what a checkpoint should be; the zero one is none.
type point struct {
	gen  uint32
	text string
}

func (p point) String() string {
	return strconv.FormatUint(uint64(p.gen), 10) + ": " + strconv.Quote(p.text)
}

func wantPoint(t *testing.T, what string, gen uint32, b []byte, ok bool, want point) {
	t.Helper()
	if (point{gen, string(b)}) != want || ok != (want.gen != 0) {
		t.Errorf("%s = %v, %v, want %v", what, point{gen, string(b)}, ok, want)
	}
}

// wantOne asks a slot for a checkpoint, and that the disk stays.
func wantOne(t *testing.T, what string, d *vdisk.Disk, a slot.Area, which int, want point) {
	t.Helper()
	was := d.Copy()
	gen, b, ok := slot.One(d, a, which)
	wantPoint(t, what+": One of "+strconv.Itoa(which), gen, b, ok, want)
	wantSame(t, what, d, was)
}

// wantLoad asks an area for a checkpoint, and that the disk stays.
func wantLoad(t *testing.T, what string, d *vdisk.Disk, a slot.Area, want point) {
	t.Helper()
	was := d.Copy()
	gen, b, ok := slot.Load(d, a)
	wantPoint(t, what+": Load", gen, b, ok, want)
	wantSame(t, what, d, was)
}

func wantNothing(t *testing.T, what string, d *vdisk.Disk, a slot.Area) {
	t.Helper()
	for _, which := range append([]int{0, 1}, others...) {
		wantOne(t, what, d, a, which, point{})
	}
	wantLoad(t, what, d, a, point{})
}

// mayBe is the chapter's word of an area, with numbers that have no end.
func mayBe(secs int, a slot.Area) bool {
	end := new(big.Int).Mul(big.NewInt(2), big.NewInt(int64(a.Size)))
	end.Add(end, big.NewInt(int64(a.First)))
	return a.First >= 0 && a.Size >= 1 && end.Cmp(big.NewInt(int64(secs))) <= 0
}

// modelled is what the chapter's words ask of One: the slot's frames up to the first that has Last, and then of all of them what they ask.
func modelled(sectors []string, a slot.Area, which int) point {
	if !mayBe(len(sectors), a) || which != 0 && which != 1 {
		return point{}
	}
	var parts []part
	ends := false
	for _, s := range sectors[a.First+which*a.Size:][:a.Size] {
		f, ok := partOf(s)
		if !ok {
			return point{}
		}
		parts = append(parts, f)
		if ends = f.flag/2%2 == 1; ends {
			break
		}
	}
	if gen := parts[0].epoch; !ends || gen == 0 || gen%2 != uint32(which) {
		return point{}
	}
	p := point{gen: parts[0].epoch}
	for i, f := range parts {
		if f.epoch != p.gen || f.seq != uint32(i) || (f.flag%2 == 1) != (i == 0) {
			return point{}
		}
		p.text += f.body
	}
	return p
}

// newer is what the chapter's words ask of Load.
func newer(zero, one point) point {
	if one.gen > zero.gen {
		return one
	}
	return zero
}

func wantModelled(t *testing.T, what string, d *vdisk.Disk, a slot.Area) point {
	t.Helper()
	sectors := sectorsOf(t, d)
	zero, one := modelled(sectors, a, 0), modelled(sectors, a, 1)
	wantOne(t, what, d, a, 0, zero)
	wantOne(t, what, d, a, 1, one)
	wantLoad(t, what, d, a, newer(zero, one))
	return newer(zero, one)
}

// P8.1: what is written.

func TestSaveAsWrittenOut(t *testing.T) {
	summed := func(s string) string {
		return string(binary.BigEndian.AppendUint32([]byte(s), crc32.Checksum([]byte(s), crc32.MakeTable(crc32.Castagnoli))))
	}
	zeros, aa := strings.Repeat("\x00", 50), strings.Repeat("a", 50)
	for _, w := range []struct {
		gen  uint32
		text string
		want []stroke
	}{
		{1, "", []stroke{{5, summed("\x00\x00\x00\x01\x00\x00\x00\x00\x03\x00" + zeros)}}},
		{2, "hi", []stroke{{1, summed("\x00\x00\x00\x02\x00\x00\x00\x00\x03\x02hi" + zeros[:48])}}},
		{0x01020304, aa, []stroke{{1, summed("\x01\x02\x03\x04\x00\x00\x00\x00\x03\x32" + aa)}}},
		{0x01020305, aa + "b", []stroke{{5, summed("\x01\x02\x03\x05\x00\x00\x00\x00\x01\x32" + aa)}, {6, summed("\x01\x02\x03\x05\x00\x00\x00\x01\x02\x01b" + zeros[:49])}}},
		{math.MaxUint32, aa + aa + aa + aa, []stroke{{5, summed("\xff\xff\xff\xff\x00\x00\x00\x00\x01\x32" + aa)}, {6, summed("\xff\xff\xff\xff\x00\x00\x00\x01\x00\x32" + aa)}, {7, summed("\xff\xff\xff\xff\x00\x00\x00\x02\x00\x32" + aa)}, {8, summed("\xff\xff\xff\xff\x00\x00\x00\x03\x02\x32" + aa)}}},
	} {
		d := junkDisk(t, 12)
		save(t, d, slot.Area{First: 1, Size: 4}, w.gen, w.text)
		if got := rowOf(t, d); d.Pending() != len(w.want) || !slices.Equal(got, w.want) {
			t.Errorf("Save of %d, %q: %d writes %v, want %v", w.gen, w.text, d.Pending(), got, w.want)
		}
	}
}

// A sum that is written out, too.
func TestSaveSumAsWrittenOut(t *testing.T) {
	d := vdisk.New(2)
	save(t, d, slot.Area{First: 0, Size: 1}, 1, "ab")
	want := "\x00\x00\x00\x01\x00\x00\x00\x00\x03\x02ab" + strings.Repeat("\x00", 48) + "\xbf\xd5\x9b\xf4"
	if got := sectorsOf(t, d)[1]; got != want {
		t.Errorf("Save writes %q, want %q", got, want)
	}
	wantLoad(t, "the sum", d, slot.Area{First: 0, Size: 1}, point{1, "ab"})
}

// P8.1: every length and every number's slot, with all other sectors as they were.
func TestSaveOfEveryLength(t *testing.T) {
	for _, a := range areas {
		for _, gen := range gens {
			for _, n := range lengths {
				d := junkDisk(t, 12)
				text := someText(n, byte(gen))
				save(t, d, a, gen, text)
				var want []stroke
				for i, f := range cut(gen, text) {
					want = append(want, stroke{a.First + int(gen%2)*a.Size + i, f.sector()})
				}
				if got := rowOf(t, d); d.Pending() != len(want) || !slices.Equal(got, want) {
					t.Errorf("Save(%v, %d, %d bytes): %d writes %v, want %v", a, gen, n, d.Pending(), got, want)
				}
				d.Sync()
				for at, s := range sectorsOf(t, d) {
					i := slices.IndexFunc(want, func(w stroke) bool { return w.at == at })
					if i < 0 && s != junk(at) || i >= 0 && s != want[i].s {
						t.Errorf("Save(%v, %d, %d bytes): the sector %d has %q", a, gen, n, at, s)
					}
				}
				wantLoad(t, "saved", d, a, point{gen, text})
			}
		}
	}
}

// P8.1: a shorter one leaves what stands behind it in its slot, and the other slot.
func TestSaveLeavesWhatIsBehind(t *testing.T) {
	for _, a := range areas {
		d := junkDisk(t, 12)
		save(t, d, a, 3, someText(200, 1))
		save(t, d, a, 4, someText(180, 2))
		d.Sync()
		was := sectorsOf(t, d)
		save(t, d, a, 5, someText(60, 3))
		d.Sync()
		for i, f := range cut(5, someText(60, 3)) {
			was[a.First+a.Size+i] = f.sector()
		}
		if !slices.Equal(sectorsOf(t, d), was) {
			t.Errorf("%v: Save changed another sector", a)
		}
		wantOne(t, "the shorter one", d, a, 1, point{5, someText(60, 3)})
		wantOne(t, "the other slot", d, a, 0, point{4, someText(180, 2)})
	}
}

// P8.1: a number that was saved is saved again, and one below it, too.
func TestSaveOfANumberAgain(t *testing.T) {
	d, a := junkDisk(t, 12), slot.Area{First: 1, Size: 4}
	for i, gen := range []uint32{5, 5, 3, 1, math.MaxUint32, 1} {
		save(t, d, a, gen, someText(60+i, byte(i)))
		wantOne(t, "again", d, a, 1, point{gen, someText(60+i, byte(i))})
		wantLoad(t, "again", d, a, point{gen, someText(60+i, byte(i))})
	}
}

// P8.1: Save isn't what syncs, neither its own writes nor others.
func TestSaveSyncsNothing(t *testing.T) {
	d, a := junkDisk(t, 12), slot.Area{First: 1, Size: 4}
	was := sectorsOf(t, d)
	put(t, d, 11, "other")
	save(t, d, a, 1, someText(120, 1))
	save(t, d, a, 2, "two")
	if d.Pending() != 5 || !slices.Equal(syncedOf(t, d), was) {
		t.Errorf("behind Saves %d writes aren't synced, want 5", d.Pending())
	}
}

// P8.1: ErrArg.

func TestSaveOfAreasThatMayNotBe(t *testing.T) {
	d := junkDisk(t, 12)
	put(t, d, 3, "not synced")
	for _, a := range bad {
		for _, gen := range []uint32{0, 1, 2, math.MaxUint32} {
			for _, n := range []int{0, 1, 60, 700, 100_000} {
				wantNoSave(t, "an area that may not be", d, a, gen, make([]byte, n), api.ErrArg)
			}
		}
	}
}

// P8.1: every area beside a disk's edges, held against the chapter's words.
func TestEveryArea(t *testing.T) {
	for _, secs := range []int{1, 2, 3, 4, 7, 8, 1023, 1024} {
		for first := -3; first <= secs+3; first++ {
			if secs > 100 && first > 4 && first < secs-12 {
				continue
			}
			half := (secs - first) / 2
			for _, size := range []int{-2, -1, 0, 1, 2, 3, half - 1, half, half + 1, secs / 2, secs, secs + 1} {
				a, want := slot.Area{First: first, Size: size}, api.ErrArg
				if mayBe(secs, a) {
					want = api.OK
				}
				d := vdisk.New(secs)
				for _, gen := range []uint32{6, 7} {
					if e := slot.Save(d, a, gen, []byte("ada")); e != want {
						t.Errorf("Save(%d sectors, %v) = %d, want %d", secs, a, e, want)
					}
				}
				zero, one := point{}, point{}
				if want == api.OK {
					zero, one = point{6, "ada"}, point{7, "ada"}
				}
				gen, b, ok := slot.One(d, a, 0)
				wantPoint(t, "One of an area", gen, b, ok, zero)
				gen, b, ok = slot.One(d, a, 1)
				wantPoint(t, "One of an area", gen, b, ok, one)
				gen, b, ok = slot.Load(d, a)
				wantPoint(t, "Load of an area", gen, b, ok, one)
			}
		}
	}
}

func TestSaveOfTheNumberZero(t *testing.T) {
	d := junkDisk(t, 12)
	for _, a := range areas {
		for _, n := range []int{0, 1, 50, 51, 200, 201, 300, 301, 10_000} {
			wantNoSave(t, "the number 0", d, a, 0, make([]byte, n), api.ErrArg)
		}
	}
}

func TestSaveOfNoDisk(t *testing.T) {
	for _, a := range append(slices.Concat(areas, bad), slot.Area{}) {
		for _, gen := range append([]uint32{0}, gens...) {
			for _, b := range [][]byte{nil, {}, []byte("ada"), make([]byte, 10_000)} {
				if e := slot.Save(nil, a, gen, b); e != api.ErrArg {
					t.Errorf("Save(nil, %v, %d, %d bytes) = %d", a, gen, len(b), e)
				}
			}
		}
		wantNothing(t, "no disk", nil, a)
	}
}

// P8.1: ErrFull.

func TestSaveOfTooMuch(t *testing.T) {
	for size := 1; size <= 12; size++ {
		a := slot.Area{First: 1, Size: size}
		for _, gen := range gens {
			d := junkDisk(t, 2*size+2)
			for _, n := range []int{50*size + 1, 50*size + 49, 50*size + 50, 50*size + 51, 100*size + 1, 100_000} {
				wantNoSave(t, "too much", d, a, gen, []byte(someText(n, 1)), api.ErrFull)
			}
			wantNothing(t, "too much", d, a)
			for _, n := range []int{50 * size, 50*size - 1, 50*size - 49} {
				save(t, d, a, gen, someText(n, 2))
				wantLoad(t, "just as much", d, a, point{gen, someText(n, 2)})
			}
			wantNoSave(t, "too much, over another one", d, a, gen, make([]byte, 50*size+1), api.ErrFull)
			wantLoad(t, "too much, over another one", d, a, point{gen, someText(50*size-49, 2)})
		}
	}
}

// The greatest area of the greatest disk.
func TestSaveOfTheGreatestArea(t *testing.T) {
	d, a := vdisk.New(1024), slot.Area{First: 0, Size: 512}
	save(t, d, a, 8, someText(512*50, 1))
	save(t, d, a, 9, someText(512*50, 2))
	wantOne(t, "the slot 0", d, a, 0, point{8, someText(512*50, 1)})
	wantLoad(t, "the slot 1", d, a, point{9, someText(512*50, 2)})
	wantNoSave(t, "too much", d, a, 10, make([]byte, 512*50+1), api.ErrFull)
}

// R2.
func TestSaveOfNoBytes(t *testing.T) {
	for _, b := range [][]byte{nil, {}} {
		d, a := junkDisk(t, 2), slot.Area{First: 0, Size: 1}
		if e := slot.Save(d, a, 1, b); e != api.OK {
			t.Errorf("Save of no bytes = %d", e)
		}
		if gen, b, ok := slot.Load(d, a); gen != 1 || len(b) != 0 || !ok {
			t.Errorf("Load of no bytes = %d, %q, %v", gen, b, ok)
		}
		if gen, b, ok := slot.One(d, a, 1); gen != 1 || len(b) != 0 || !ok {
			t.Errorf("One of no bytes = %d, %q, %v", gen, b, ok)
		}
	}
}

// R3: what is saved isn't changed, nor shared with the disk.
func TestSaveSharesNothing(t *testing.T) {
	for _, n := range lengths {
		d, a := junkDisk(t, 12), slot.Area{First: 1, Size: 4}
		room := []byte(someText(n, 5) + "behind")
		b := room[:n]
		if e := slot.Save(d, a, 6, b); e != api.OK {
			t.Fatalf("Save = %d", e)
		}
		if string(room) != someText(n, 5)+"behind" {
			t.Errorf("Save changed what it was handed: %q", room)
		}
		for i := range room {
			room[i] = 0xcc
		}
		wantLoad(t, "behind a change", d, a, point{6, someText(n, 5)})
	}
}

// P8.2: nothing.

func TestNothingOfNoFrames(t *testing.T) {
	for _, d := range []*vdisk.Disk{vdisk.New(1), vdisk.New(2), vdisk.New(12), vdisk.New(1024), junkDisk(t, 2), junkDisk(t, 12)} {
		for _, a := range append(slices.Clone(areas), slot.Area{}, slot.Area{First: 0, Size: 1}, slot.Area{First: 0, Size: 512}) {
			wantNothing(t, "no frames", d, a)
		}
	}
}

// Wherever a slot of such an area would begin, there is a checkpoint that would fit it.
func TestNothingOfAreasThatMayNotBe(t *testing.T) {
	for _, a := range bad {
		for _, gen := range []uint32{6, 7} {
			d := junkDisk(t, 12)
			for at := range 12 {
				put(t, d, at, part{gen, 0, 3, "ada"}.sector())
			}
			wantNothing(t, "an area that may not be", d, a)
		}
	}
	// One slot is on the disk, and has one; the other isn't.
	d := junkDisk(t, 12)
	lay(t, d, 6, cut(8, someText(150, 1))...)
	wantNothing(t, "the slot 1 is beyond", d, slot.Area{First: 6, Size: 4})
	lay(t, d, 0, cut(9, someText(150, 1))...)
	wantNothing(t, "the slot 0 is ahead", d, slot.Area{First: -4, Size: 4})
}

// Wherever a slot of another number would be, there is a checkpoint that would fit it.
func TestNothingOfOtherSlots(t *testing.T) {
	d, a := junkDisk(t, 24), slot.Area{First: 8, Size: 4}
	for i := range 6 {
		lay(t, d, 4*i, cut(uint32(10+i), someText(120, byte(i)))...)
	}
	for _, which := range others {
		wantOne(t, "another slot", d, a, which, point{})
	}
	wantOne(t, "a slot", d, a, 0, point{12, someText(120, 2)})
	wantOne(t, "a slot", d, a, 1, point{13, someText(120, 3)})
	wantLoad(t, "slots", d, a, point{13, someText(120, 3)})
}

// P8.2: a slot's number is of its own kind, even or odd, and not 0.
func TestOneOfNumbers(t *testing.T) {
	a := slot.Area{First: 1, Size: 4}
	for _, gen := range append([]uint32{0}, gens...) {
		for which := range 2 {
			for _, n := range []int{0, 60, 200} {
				d := junkDisk(t, 10)
				lay(t, d, 1+4*which, cut(gen, someText(n, 1))...)
				want := point{}
				if gen != 0 && gen%2 == uint32(which) {
					want = point{gen, someText(n, 1)}
				}
				wantOne(t, "a number", d, a, which, want)
				wantOne(t, "the slot without one", d, a, 1-which, point{})
				wantLoad(t, "a number", d, a, want)
			}
		}
	}
}

// P8.2: a frame that is spoilt, whichever one it is of a checkpoint.
func TestOneOfASpoiltFrame(t *testing.T) {
	a := slot.Area{First: 1, Size: 4}
	spoils := map[string]func(f part) string{
		"zeros":               func(f part) string { return strings.Repeat("\x00", 64) },
		"junk":                func(f part) string { return junk(5) },
		"the epoch ahead":     func(f part) string { f.epoch--; return f.sector() },
		"the epoch behind":    func(f part) string { f.epoch++; return f.sector() },
		"an epoch of 0":       func(f part) string { f.epoch = 0; return f.sector() },
		"an epoch of 2^31 on": func(f part) string { f.epoch += 1<<31 + 1; return f.sector() },
		"the seq ahead":       func(f part) string { f.seq--; return f.sector() },
		"the seq behind":      func(f part) string { f.seq++; return f.sector() },
		"a seq of 4 on":       func(f part) string { f.seq += 4; return f.sector() },
		"a seq of 2^8 on":     func(f part) string { f.seq += 1 << 8; return f.sector() },
		"a seq of 2^16 on":    func(f part) string { f.seq += 1 << 16; return f.sector() },
		"a seq of 2^31 on":    func(f part) string { f.seq += 1 << 31; return f.sector() },
		"the other First":     func(f part) string { f.flag ^= 1; return f.sector() },
		"the other 253":       func(f part) string { f.flag ^= 253; return f.sector() },
	}
	for name, spoil := range spoils {
		for _, gen := range []uint32{6, 7, math.MaxUint32 - 2} {
			for _, n := range []int{0, 50, 60, 150, 151, 200} {
				parts := cut(gen, someText(n, 1))
				for i, f := range parts {
					d, which := junkDisk(t, 10), int(gen%2)
					lay(t, d, 1+4*which, parts...)
					put(t, d, 1+4*which+i, spoil(f))
					wantOne(t, name, d, a, which, point{})
					wantOne(t, name, d, a, 1-which, point{})
					wantLoad(t, name, d, a, point{})
				}
			}
		}
	}
}

// P8.2: frames that are all of an epoch of the same kind, even or odd, and not of one.
func TestOneOfSeveralEpochs(t *testing.T) {
	a := slot.Area{First: 1, Size: 4}
	for _, gen := range []uint32{6, 7} {
		for i := range 4 {
			for _, by := range []uint32{2, 4, 1 << 16, 1 << 31, ^uint32(1)} {
				d, which := junkDisk(t, 10), int(gen%2)
				parts := cut(gen, someText(200, 1))
				parts[i].epoch += by
				lay(t, d, 1+4*which, parts...)
				wantOne(t, "several epochs", d, a, which, point{})
				wantLoad(t, "several epochs", d, a, point{})
			}
		}
	}
}

// P8.2: each byte of a frame's sector that is another one is a frame no more.
func TestOneOfOneOtherByte(t *testing.T) {
	a := slot.Area{First: 1, Size: 4}
	d := junkDisk(t, 10)
	save(t, d, a, 6, someText(30, 1))
	save(t, d, a, 7, someText(120, 2))
	d.Sync()
	parts := cut(7, someText(120, 2))
	for i, f := range parts {
		for at := range 64 {
			for _, by := range []byte{1, 0x80, 0xff} {
				bent := []byte(f.sector())
				bent[at] ^= by
				one := d.Copy()
				put(t, one, 5+i, string(bent))
				wantOne(t, "another byte", one, a, 1, point{})
				wantLoad(t, "another byte", one, a, point{6, someText(30, 1)})
			}
		}
	}
}

func TestOneFlagsAsWrittenOut(t *testing.T) {
	for _, w := range []struct {
		flags []byte
		want  string
		ok    bool
	}{
		{nil, "", false},
		{[]byte{0}, "", false},
		{[]byte{1}, "", false},
		{[]byte{2}, "", false},
		{[]byte{3}, "a", true},
		{[]byte{255}, "a", true},
		{[]byte{7}, "a", true},
		{[]byte{131}, "a", true},
		{[]byte{254}, "", false},
		{[]byte{253}, "", false},
		{[]byte{4, 8, 16, 32}, "", false},
		{[]byte{1, 2}, "ab", true},
		{[]byte{253, 254}, "ab", true},
		{[]byte{1, 0, 2}, "abc", true},
		{[]byte{1, 0, 0, 2}, "abcd", true},
		{[]byte{1, 252, 4, 6}, "abcd", true},
		{[]byte{1, 0, 0, 0}, "", false},
		{[]byte{1, 0, 0}, "", false},
		{[]byte{0, 3}, "", false},
		{[]byte{0, 0, 0, 2}, "", false},
		{[]byte{2, 3}, "", false},
		{[]byte{1, 3}, "", false},
		{[]byte{1, 1, 2}, "", false},
		{[]byte{1, 0, 3}, "", false},
		{[]byte{1, 0, 0, 3}, "", false},
		{[]byte{1, 5, 2}, "", false},
		{[]byte{3, 0, 3}, "a", true},
		{[]byte{3, 3, 3, 3}, "a", true},
		{[]byte{3, 1, 2}, "a", true},
		{[]byte{1, 2, 2, 2}, "ab", true},
		{[]byte{1, 2, 1, 0}, "ab", true},
		{[]byte{1, 2, 3}, "ab", true},
	} {
		for which := range 2 {
			d, a := junkDisk(t, 10), slot.Area{First: 1, Size: 4}
			gen := uint32(6 + which)
			for i, flag := range w.flags {
				put(t, d, 1+4*which+i, part{gen, uint32(i), flag, string(rune('a' + i))}.sector())
			}
			want := point{}
			if w.ok {
				want = point{gen, w.want}
			}
			wantOne(t, "the flags "+strconv.Quote(string(w.flags)), d, a, which, want)
			wantLoad(t, "the flags "+strconv.Quote(string(w.flags)), d, a, want)
		}
	}
}

// P8.2: all rows of four flags, held against the chapter's words.
func TestOneOfEveryRowOfFlags(t *testing.T) {
	d, a := junkDisk(t, 6), slot.Area{First: 1, Size: 2}
	for first := range 256 {
		for second := range 256 {
			if first > 7 && first < 250 && second > 7 && second < 250 {
				continue
			}
			lay(t, d, 1, part{6, 0, byte(first), "a"}, part{6, 1, byte(second), "b"})
			gen, b, ok := slot.One(d, a, 0)
			wantPoint(t, "One of the flags "+strconv.Itoa(first)+", "+strconv.Itoa(second), gen, b, ok, modelled(sectorsOf(t, d), a, 0))
			d.Sync()
		}
	}
	a = slot.Area{First: 0, Size: 4}
	for row := range 256 {
		d := junkDisk(t, 8)
		for i := range 4 {
			put(t, d, 4+i, part{7, uint32(i), byte(row >> (2 * i) & 3), someText(i, byte(i))}.sector())
		}
		wantModelled(t, "the flags "+strconv.Itoa(row), d, a)
	}
}

// P8.2: what stands behind the first frame that has Last doesn't count, whatever it is.
func TestOneOfWhatIsBehind(t *testing.T) {
	a := slot.Area{First: 1, Size: 4}
	for name, behind := range map[string]string{
		"zeros":                      strings.Repeat("\x00", 64),
		"junk":                       junk(3),
		"the next frame":             part{7, 2, 0, "z"}.sector(),
		"the next frame, with Last":  part{7, 2, 2, "z"}.sector(),
		"the next frame, with First": part{7, 2, 1, "z"}.sector(),
		"another seq":                part{7, 9, 0, "z"}.sector(),
		"an epoch ahead":             part{5, 2, 2, "z"}.sector(),
		"an epoch behind":            part{9, 2, 2, "z"}.sector(),
		"an epoch of 0":              part{0, 0, 3, "z"}.sector(),
	} {
		d := junkDisk(t, 10)
		lay(t, d, 5, cut(7, someText(60, 1))...)
		put(t, d, 7, behind)
		put(t, d, 8, behind)
		wantOne(t, name, d, a, 1, point{7, someText(60, 1)})
		wantLoad(t, name, d, a, point{7, someText(60, 1)})
	}
}

// P8.2: a frame that has Last is in the slot; one behind it, though it is the one that is due, isn't.
func TestOneOfALastBeyondTheSlot(t *testing.T) {
	for size := 1; size <= 4; size++ {
		a := slot.Area{First: 1, Size: size}
		for which := range 2 {
			d := junkDisk(t, 12)
			gen := uint32(6 + which)
			parts := cut(gen, someText(50*size+10, 1))
			lay(t, d, 1+which*size, parts...)
			wantOne(t, "Last beyond the slot", d, a, which, point{})
			wantLoad(t, "Last beyond the slot", d, a, point{})
			parts[size-1].flag |= 2
			lay(t, d, 1+which*size, parts...)
			wantOne(t, "Last at the slot's end", d, a, which, point{gen, someText(50*size, 1)})
		}
	}
	// The slot 1's first frame is what the slot 0 lacks.
	d, a := junkDisk(t, 4), slot.Area{First: 0, Size: 2}
	lay(t, d, 0, part{6, 0, 1, "a"}, part{6, 1, 0, "b"}, part{6, 2, 2, "c"})
	wantNothing(t, "over both slots", d, a)
	// And the slot 1 at the disk's end.
	d = junkDisk(t, 4)
	lay(t, d, 2, part{7, 0, 1, "a"}, part{7, 1, 0, "b"})
	wantNothing(t, "at the disk's end", d, a)
}

// P8.2: a slot begins with its first sector.
func TestOneBeginsAtItsFirstSector(t *testing.T) {
	a := slot.Area{First: 1, Size: 4}
	for by := -1; by <= 4; by++ {
		d := junkDisk(t, 12)
		lay(t, d, 1+by, cut(6, someText(60, 1))...)
		if by == 0 {
			wantOne(t, "at the first sector", d, a, 0, point{6, someText(60, 1)})
		} else {
			wantNothing(t, "not at the first sector", d, a)
		}
	}
}

// P8.2: frames that Cut never makes: short bodies in the middle, and none.
func TestOneOfBodiesOfAnyLength(t *testing.T) {
	d, a := junkDisk(t, 12), slot.Area{First: 1, Size: 5}
	lay(t, d, 1, part{6, 0, 1, ""}, part{6, 1, 0, "a"}, part{6, 2, 0, someText(50, 1)}, part{6, 3, 0, ""}, part{6, 4, 2, "\x00\x00"})
	wantOne(t, "bodies", d, a, 0, point{6, "a" + someText(50, 1) + "\x00\x00"})
}

// P8.2: zeros are bytes as any others, at the end, too.
func TestOneOfZeros(t *testing.T) {
	for _, n := range lengths {
		d, a := junkDisk(t, 12), slot.Area{First: 1, Size: 4}
		save(t, d, a, 2, strings.Repeat("\x00", n))
		wantOne(t, "zeros", d, a, 0, point{2, strings.Repeat("\x00", n)})
	}
}

// P8.2: Load.

func TestLoadOfBothSlots(t *testing.T) {
	a := slot.Area{First: 1, Size: 4}
	for _, zero := range append([]uint32{0}, gens...) {
		for _, one := range append([]uint32{0}, gens...) {
			if zero%2 == 1 || one != 0 && one%2 == 0 {
				continue
			}
			d := junkDisk(t, 10)
			want := point{}
			if zero != 0 {
				save(t, d, a, zero, someText(120, 1))
				want = point{zero, someText(120, 1)}
				wantOne(t, "the slot 0", d, a, 0, want)
			}
			if one != 0 {
				save(t, d, a, one, someText(60, 2))
				wantOne(t, "the slot 1", d, a, 1, point{one, someText(60, 2)})
			}
			if one > zero {
				want = point{one, someText(60, 2)}
			}
			wantLoad(t, "both slots", d, a, want)
			d.Sync()
			wantLoad(t, "both slots, synced", d, a, want)
		}
	}
}

// P8.2: the newer one isn't whole: the older one is told, whichever slot it has.
func TestLoadOfTheOlderOne(t *testing.T) {
	a := slot.Area{First: 1, Size: 4}
	for _, gen := range []uint32{6, 7} {
		for i := range 3 {
			d := junkDisk(t, 10)
			save(t, d, a, gen, "older")
			save(t, d, a, gen+1, someText(120, 1))
			wantLoad(t, "whole", d, a, point{gen + 1, someText(120, 1)})
			put(t, d, 1+4*int((gen+1)%2)+i, junk(1))
			wantLoad(t, "not whole", d, a, point{gen, "older"})
			put(t, d, 1+4*int(gen%2), junk(1))
			wantLoad(t, "neither is whole", d, a, point{})
		}
	}
}

// An area sees its own slots alone: those of another one of the same disk aren't its.
func TestAreasBesideEachOther(t *testing.T) {
	d := junkDisk(t, 20)
	one, two := slot.Area{First: 0, Size: 4}, slot.Area{First: 8, Size: 6}
	save(t, d, one, 6, "six")
	save(t, d, two, 9, someText(290, 1))
	save(t, d, one, 7, someText(200, 2))
	save(t, d, two, 8, someText(300, 3))
	wantLoad(t, "one", d, one, point{7, someText(200, 2)})
	wantLoad(t, "two", d, two, point{9, someText(290, 1)})
	wantOne(t, "one", d, one, 0, point{6, "six"})
	wantOne(t, "two", d, two, 0, point{8, someText(300, 3)})
}

// R3: what is told is the caller's own.
func TestReadingSharesNothing(t *testing.T) {
	d, a := junkDisk(t, 12), slot.Area{First: 1, Size: 4}
	save(t, d, a, 6, someText(130, 1))
	save(t, d, a, 7, someText(180, 2))
	_, zero, _ := slot.One(d, a, 0)
	_, one, _ := slot.One(d, a, 1)
	_, load, _ := slot.Load(d, a)
	_, again, _ := slot.Load(d, a)
	for _, b := range [][]byte{one, load, zero} {
		b = b[:cap(b)]
		for i := range b {
			b[i] = 0xcc
		}
	}
	if string(again) != someText(180, 2) {
		t.Errorf("a change of what was told reaches what another Load told: %q", again)
	}
	wantOne(t, "behind changes", d, a, 0, point{6, someText(130, 1)})
	wantLoad(t, "behind changes", d, a, point{7, someText(180, 2)})
	save(t, d, a, 9, someText(150, 3))
	d.Sync()
	if string(again) != someText(180, 2) {
		t.Errorf("a change of the disk reaches what was told: %q", again)
	}
}

// R4: calls of several disks and areas, mixed, tell what each would tell alone.
func TestNothingIsKept(t *testing.T) {
	a, b := slot.Area{First: 1, Size: 4}, slot.Area{First: 0, Size: 2}
	one, two := junkDisk(t, 10), junkDisk(t, 4)
	save(t, one, a, 6, someText(120, 1))
	save(t, two, b, 3, someText(60, 2))
	for range 3 {
		wantLoad(t, "one", one, a, point{6, someText(120, 1)})
		wantLoad(t, "two", two, b, point{3, someText(60, 2)})
		wantOne(t, "one, the other slot", one, a, 1, point{})
		wantNothing(t, "none", nil, a)
		wantLoad(t, "two, another area", two, slot.Area{First: 0, Size: 1}, point{})
	}
}

// P8.3.

// The chapter's example.
func TestSavedTwiceAndHalfLost(t *testing.T) {
	d, a := vdisk.New(12), slot.Area{First: 1, Size: 4}
	save(t, d, a, 1, someText(70, 1))
	d.Sync()
	save(t, d, a, 2, someText(90, 2))
	d.Crash([]bool{true, false})
	wantLoad(t, "half lost", d, a, point{1, someText(70, 1)})
}

func TestWhatWasSavedIsLoaded(t *testing.T) {
	for _, a := range areas {
		d := junkDisk(t, 12)
		for i := range 40 {
			p := point{uint32(i + 1), someText(lengths[i*7%len(lengths)], byte(i))}
			save(t, d, a, p.gen, p.text)
			wantLoad(t, "saved", d, a, p)
			if i%3 == 0 {
				d.Sync()
				wantLoad(t, "synced", d, a, p)
				d.Crash(nil)
				wantLoad(t, "crashed", d, a, p)
			}
		}
	}
}

// keepOf is which writes a crash keeps, by a number's bits.
func keepOf(bits, many int) []bool {
	keep := make([]bool, many)
	for i := range keep {
		keep[i] = bits>>i&1 == 1
	}
	return keep
}

// P8.3: all crashes of a saving, behind one that was synced, whatever its slot had before: the one ahead, or the new one, and that only if it is whole.
func TestEveryCrashOfASaving(t *testing.T) {
	a := slot.Area{First: 1, Size: 5}
	for _, gen := range []uint32{2, 3, 4, 5, math.MaxUint32 - 1, math.MaxUint32} {
		for _, before := range []int{-1, 0, 60, 250} {
			for _, older := range []int{0, 130, 250} {
				for _, n := range []int{0, 50, 51, 120, 200, 250} {
					d := junkDisk(t, 12)
					if before >= 0 && gen > 2 {
						save(t, d, a, gen-2, someText(before, 1))
					}
					save(t, d, a, gen-1, someText(older, 2))
					d.Sync()
					save(t, d, a, gen, someText(n, 3))
					many := d.Pending()
					for bits := range 1 << many {
						one, want := d.Copy(), point{gen - 1, someText(older, 2)}
						if bits == 1<<many-1 {
							want = point{gen, someText(n, 3)}
						}
						one.Crash(keepOf(bits, many))
						wantLoad(t, "crashed", one, a, want)
						// And once more: a crash without writes loses nothing.
						one.Crash(nil)
						wantLoad(t, "crashed again", one, a, want)
					}
				}
			}
		}
	}
}

// P8.3: savings, one behind the other, that go on behind crashes: each saves over what is left of a lost one.
func TestEveryCrashBehindEveryCrash(t *testing.T) {
	a := slot.Area{First: 0, Size: 3}
	first := junkDisk(t, 6)
	save(t, first, a, 1, someText(150, 9))
	first.Sync()
	type state struct {
		d *vdisk.Disk
		p point
	}
	states := []state{{first, point{1, someText(150, 9)}}}
	for step, n := range []int{101, 60, 150, 149} {
		var next []state
		for _, s := range states {
			// The number is one that no frame has, and not of the slot of what is loaded.
			gen := uint32(10*step + 10)
			gen += 1 - (gen+s.p.gen)%2
			p := point{gen, someText(n, byte(step))}
			save(t, s.d, a, gen, p.text)
			many := s.d.Pending()
			for bits := range 1 << many {
				one, want := s.d.Copy(), s.p
				if bits == 1<<many-1 {
					want = p
				}
				one.Crash(keepOf(bits, many))
				wantLoad(t, "crashed", one, a, want)
				next = append(next, state{one, want})
			}
		}
		states = next
	}
}

// P8.3: whatever is saved, written over, synced and lost.
func TestWhateverIsDone(t *testing.T) {
	random := rand.New(rand.NewSource(1))
	for range 100 {
		size := 1 + random.Intn(6)
		a := slot.Area{First: random.Intn(3), Size: size}
		d := junkDisk(t, a.First+2*size+random.Intn(3))
		gen := []uint32{0, uint32(random.Intn(1000)), math.MaxUint32 - 500}[random.Intn(3)]
		var synced point
		for range 40 {
			// A number above all others, of the slot that what is synced hasn't.
			gen += uint32(1 + random.Intn(5))
			if gen%2 == synced.gen%2 {
				gen++
			}
			p := point{gen, someText(random.Intn(50*size+1), byte(random.Intn(256)))}
			save(t, d, a, p.gen, p.text)
			wantLoad(t, "the newest one", d, a, p)
			if random.Intn(3) == 0 {
				d.Sync()
			} else {
				keep := make([]bool, random.Intn(d.Pending()+3))
				for i := range keep {
					keep[i] = random.Intn(6) > 0
				}
				whole := len(keep) >= d.Pending() && !slices.Contains(keep[:d.Pending()], false)
				d.Crash(keep)
				if !whole {
					p = synced
				}
			}
			wantLoad(t, "synced, or crashed", d, a, p)
			wantModelled(t, "synced, or crashed", d, a)
			synced = p
		}
	}
}

// P8.3: where nobody syncs, what is told is still whole, and one that was saved.
func TestWhateverIsNotSynced(t *testing.T) {
	random := rand.New(rand.NewSource(2))
	for range 200 {
		size := 1 + random.Intn(4)
		a := slot.Area{First: random.Intn(3), Size: size}
		d := junkDisk(t, a.First+2*size)
		saved := []point{{}}
		for _, gen := range random.Perm(12) {
			p := point{uint32(gen + 1), someText(random.Intn(50*size+1), byte(gen))}
			save(t, d, a, p.gen, p.text)
			saved = append(saved, p)
			wantOne(t, "saved", d, a, int(p.gen%2), p)
			for range 4 {
				one, keep := d.Copy(), make([]bool, d.Pending())
				for i := range keep {
					keep[i] = random.Intn(3) > 0
				}
				one.Crash(keep)
				if got := wantModelled(t, "crashed", one, a); !slices.Contains(saved, got) {
					t.Errorf("crashed, keeping %v: Load = %v, which was never saved", keep, got)
				}
			}
		}
	}
}

// P8.2: whatever is on a disk, held against the chapter's words.
func TestWhateverThereIs(t *testing.T) {
	random := rand.New(rand.NewSource(3))
	told := 0
	for range 4000 {
		size := 1 + random.Intn(5)
		a := slot.Area{First: random.Intn(3), Size: size}
		d := junkDisk(t, a.First+2*size+random.Intn(2))
		for which := range 2 {
			gen := uint32(2*random.Intn(4) + which)
			for i := range size {
				f := part{gen, uint32(i), byte(random.Intn(2) * 2), someText(random.Intn(51), byte(i))}
				if i == 0 {
					f.flag++
				}
				switch random.Intn(30) {
				case 0:
					f.epoch ^= uint32(1 + random.Intn(3))
				case 1:
					f.seq ^= uint32(1 + random.Intn(3))
				case 2:
					f.flag ^= byte(random.Intn(256))
				}
				if random.Intn(30) > 0 {
					put(t, d, a.First+which*size+i, f.sector())
				}
			}
		}
		if wantModelled(t, "whatever", d, a).gen != 0 {
			told++
		}
		wantModelled(t, "one sector on", d, slot.Area{First: a.First + 1, Size: size})
	}
	if told < 1000 || told > 3900 {
		t.Errorf("%d disks of 4000 have a checkpoint: the test asks for one thing alone", told)
	}
}

// P1: whatever is asked of whatever disk.
func FuzzSlot(f *testing.F) {
	f.Add(12, 1, 4, uint32(7), 0, []byte("\x03\x00\x01\x32\x02\x01\x03\x00"))
	f.Add(6, 0, 3, uint32(math.MaxUint32), 1, []byte("\x03\x05\x03\x06\x03\x07"))
	f.Add(3, greatest, greatest, uint32(0), least, []byte{})
	f.Add(9, 2, 1<<62, uint32(6), 0, []byte("\x01\x05\x00\x06\x02\x07"))
	f.Add(9, 2, 3, uint32(6), 2, []byte("\x01\x05\x00\x06\x02\x07"))
	f.Fuzz(func(t *testing.T, secs, first, size int, gen uint32, which int, b []byte) {
		a := slot.Area{First: first, Size: size}
		if e := slot.Save(nil, a, gen, b); e != api.ErrArg {
			t.Errorf("Save(nil) = %d", e)
		}
		wantOne(t, "no disk", nil, a, which, point{})
		if secs < 1 || secs > 1024 {
			return
		}
		d := vdisk.New(secs)
		for i := 0; i+1 < len(b) && i < 400; i += 2 {
			if at := int64(first) + int64(i/2); at >= 0 && at < int64(secs) {
				put(t, d, int(at), part{gen, uint32(i / 2), b[i], someText(int(b[i+1])%51, b[i+1])}.sector())
			}
		}
		wantModelled(t, "fuzzed", d, a)
		wantOne(t, "fuzzed", d, a, which, modelled(sectorsOf(t, d), a, which))
		switch {
		case !mayBe(secs, a) || gen == 0:
			wantNoSave(t, "fuzzed", d, a, gen, b, api.ErrArg)
		case (len(b)+49)/50 > size:
			wantNoSave(t, "fuzzed", d, a, gen, b, api.ErrFull)
		default:
			save(t, d, a, gen, string(b))
			wantOne(t, "fuzzed", d, a, int(gen%2), point{gen, string(b)})
			wantModelled(t, "fuzzed", d, a)
		}
	})
}

func parsed(t *testing.T) *ast.File {
	t.Helper()
	file, err := parser.ParseFile(token.NewFileSet(), "slot.go", nil, 0)
	if err != nil {
		t.Fatal(err)
	}
	return file
}

// Ways: slots are read by a closure: no sector is read, and no frame parsed, but inside of one.
func TestSlotsAreReadByAClosure(t *testing.T) {
	var closures []*ast.FuncLit
	reads := map[string]int{}
	ast.Inspect(parsed(t), func(n ast.Node) bool {
		switch n := n.(type) {
		case *ast.FuncLit:
			closures = append(closures, n)
		case *ast.SelectorExpr:
			if n.Sel.Name == "Read" || n.Sel.Name == "Parse" {
				reads[n.Sel.Name]++
				if !slices.ContainsFunc(closures, func(f *ast.FuncLit) bool { return f.Pos() < n.Pos() && n.End() < f.End() }) {
					t.Errorf("%s is called outside a closure", n.Sel.Name)
				}
			}
		}
		return true
	})
	if reads["Read"] == 0 || reads["Parse"] == 0 {
		t.Errorf("no closure reads slots: %v", reads)
	}
}

// R4 and R6: the package keeps nothing from call to call, and calls no layer but vdisk and frame.
func TestSlotCallsVdiskAndFrameAlone(t *testing.T) {
	file := parsed(t)
	may := []string{"ogive/api", "ogive/vdisk", "ogive/frame"}
	for _, i := range file.Imports {
		p := strings.Trim(i.Path.Value, `"`)
		if strings.HasPrefix(p, "ogive/") && !slices.Contains(may, p) {
			t.Errorf("slot imports %s", p)
		}
	}
	for _, d := range file.Decls {
		if g, ok := d.(*ast.GenDecl); ok && g.Tok == token.VAR {
			t.Error("slot has a variable at package level")
		}
	}
}
