package ring_test

import (
	"bytes"
	"encoding/binary"
	"go/ast"
	"go/parser"
	"go/token"
	"hash/crc32"
	"math"
	"math/big"
	"math/rand"
	"slices"
	"strconv"
	"strings"
	"testing"

	"ogive/api"
	"ogive/frame"
	"ogive/ring"
	"ogive/vdisk"
)

// top is the number that no Next is above.
const top = 1 << 30

// seqs are edges of numbers, also such as no Next may be.
var seqs = []uint32{0, 1, 2, 3, 4, 5, 6, 7, 254, 255, 256, 1023, 1024, 1025, 1<<16 - 1, 1 << 16, top - 1, top, top + 1, math.MaxInt32, 1 << 31, 1<<31 + 1, math.MaxUint32 - 1, math.MaxUint32}

// lengths are of records: with one frame, two and more, at the edges.
var lengths = []int{0, 1, 2, 49, 50, 51, 60, 99, 100, 101, 149, 150, 151, 199, 200, 201, 250, 251}

// someRecord is n bytes, none of which is like its neighbours, beginning with a byte that hangs on from.
func someRecord(n int, from byte) []byte {
	b := make([]byte, n)
	for i := range b {
		b[i] = from + byte(i)*7
	}
	return b
}

// framesOf is how many frames a record of n bytes has.
func framesOf(n int) int {
	return max(1, (n+49)/50)
}

// A stroke is a write of a whole sector.
type stroke struct {
	at int
	s  string
}

// A sector's bytes are no text, so a failure tells them quoted.
func (w stroke) String() string { return strconv.Itoa(w.at) + ": " + strconv.Quote(w.s) }

// junk is what a sector of junkDisk has: no frame, and unlike every other sector's.
func junk(at int) string {
	b := bytes.Repeat([]byte{0xee}, 64)
	binary.BigEndian.PutUint32(b, uint32(at))
	return string(b)
}

// junkDisk is a disk of synced sectors that are no frames, so that a write of any frame is seen.
func junkDisk(t *testing.T, secs int) *vdisk.Disk {
	t.Helper()
	d := vdisk.New(secs)
	if d == nil {
		t.Fatalf("vdisk.New(%d) = nil", secs)
	}
	for at := range secs {
		if e := d.Write(at, []byte(junk(at))); e != api.OK {
			t.Fatalf("Write(%d) = %d", at, e)
		}
	}
	d.Sync()
	return d
}

func read(t *testing.T, d *vdisk.Disk, at int) string {
	t.Helper()
	b, e := d.Read(at)
	if e != api.OK {
		t.Fatalf("Read(%d) = %d", at, e)
	}
	return string(b)
}

// row is what was written to a junkDisk, in turn: each write is seen by a crash that keeps it alone.
func row(t *testing.T, d *vdisk.Disk) []stroke {
	t.Helper()
	var found []stroke
	for i := range d.Pending() {
		one, keep := d.Copy(), make([]bool, i+1)
		keep[i] = true
		one.Crash(keep)
		for at := range one.Len() {
			if s := read(t, one, at); s != junk(at) {
				found = append(found, stroke{at, s})
			}
		}
	}
	return found
}

// sectorOf is a frame's sector in the words of its chapter.
func sectorOf(epoch, seq uint32, flag byte, body []byte) string {
	b := binary.BigEndian.AppendUint32(nil, epoch)
	b = binary.BigEndian.AppendUint32(b, seq)
	b = append(b, flag, byte(len(body)))
	b = append(b, body...)
	for len(b) < 60 {
		b = append(b, 0)
	}
	return string(binary.BigEndian.AppendUint32(b, crc32.Checksum(b, crc32.MakeTable(crc32.Castagnoli))))
}

// strokesOf is what a record's Append should write, from a number on.
func strokesOf(p ring.Place, next uint32, rec []byte) []stroke {
	var all []stroke
	n := framesOf(len(rec))
	for i := range n {
		seq, flag := int(next)+i, byte(0)
		if i == 0 {
			flag += 1
		}
		if i == n-1 {
			flag += 2
		}
		all = append(all, stroke{p.First + seq%p.Many, sectorOf(p.Epoch, uint32(seq), flag, rec[50*i:min(len(rec), 50*i+50)])})
	}
	return all
}

func newRing(t *testing.T, d *vdisk.Disk, p ring.Place, low, next uint32) *ring.Ring {
	t.Helper()
	r := ring.New(d, p, low, next)
	if r == nil {
		t.Fatalf("New(%d sectors, %v, %d, %d) = nil", d.Len(), p, low, next)
	}
	return r
}

func wantRing(t *testing.T, what string, r *ring.Ring, low, next uint32, free int) {
	t.Helper()
	if r.Low() != low || r.Next() != next || r.Free() != free {
		t.Errorf("%s: Low, Next, Free = %d, %d, %d, want %d, %d, %d", what, r.Low(), r.Next(), r.Free(), low, next, free)
	}
}

func wantRow(t *testing.T, what string, d *vdisk.Disk, want []stroke) {
	t.Helper()
	if got := row(t, d); d.Pending() != len(want) || !slices.Equal(got, want) {
		t.Errorf("%s: %d writes %v, want %v", what, d.Pending(), got, want)
	}
}

func wantAppend(t *testing.T, r *ring.Ring, rec []byte, want uint32) {
	t.Helper()
	if n, e := r.Append(rec); n != want || e != api.OK {
		t.Errorf("Append of %d bytes = %d, %d, want %d", len(rec), n, e, want)
	}
}

func wantNoAppend(t *testing.T, r *ring.Ring, rec []byte, want api.Errno) {
	t.Helper()
	if n, e := r.Append(rec); n != 0 || e != want {
		t.Errorf("Append of %d bytes = %d, %d, want 0, %d", len(rec), n, e, want)
	}
}

// P6.1: At.

func TestAtAsWrittenOut(t *testing.T) {
	for _, w := range []struct {
		first, many int
		seq         uint32
		want        int
	}{
		{0, 1, 0, 0}, {0, 1, 1, 0}, {0, 1, math.MaxUint32, 0}, {5, 1, 0, 5}, {5, 1, 7, 5},
		{0, 2, 0, 0}, {0, 2, 1, 1}, {0, 2, 2, 0}, {0, 2, 3, 1}, {0, 2, math.MaxUint32, 1}, {9, 2, 1 << 31, 9},
		{1, 4, 0, 1}, {1, 4, 3, 4}, {1, 4, 4, 1}, {1, 4, 6, 3}, {1, 4, 8, 1}, {1, 4, math.MaxUint32, 4},
		{0, 7, 6, 6}, {0, 7, 7, 0}, {0, 7, 8, 1}, {10, 7, math.MaxUint32, 13}, {10, 7, top, 11},
		{0, 1024, 1023, 1023}, {0, 1024, 1024, 0}, {0, 1024, 1025, 1},
		{0, math.MaxInt64, math.MaxUint32, math.MaxUint32}, {1, 1 << 32, math.MaxUint32, 1 << 32}, {0, math.MaxUint32, math.MaxUint32, 0}, {0, 1<<32 + 1, 5, 5},
		{-3, 4, 2, -1}, {-3, 4, 7, 0}, {math.MinInt64, 3, 5, math.MinInt64 + 2}, {math.MaxInt64 - 2, 3, 5, math.MaxInt64},
	} {
		for _, epoch := range []uint32{0, 7, math.MaxUint32} {
			if at := ring.At(ring.Place{First: w.first, Many: w.many, Epoch: epoch}, w.seq); at != w.want {
				t.Errorf("At(%d, %d; %d) = %d, want %d", w.first, w.many, w.seq, at, w.want)
			}
		}
	}
}

func TestAtOfEdges(t *testing.T) {
	for _, first := range []int{-1 << 40, -1, 0, 1, 2, 1000, 1 << 31, 1 << 40} {
		for _, many := range []int{1, 2, 3, 4, 5, 6, 7, 63, 64, 1023, 1024, 1 << 16, 1<<31 - 1, 1 << 31, 1<<32 - 1, 1 << 32, math.MaxInt64 - 1, math.MaxInt64} {
			for _, seq := range seqs {
				left := new(big.Int).Mod(big.NewInt(int64(seq)), big.NewInt(int64(many)))
				want := left.Add(left, big.NewInt(int64(first)))
				if at := ring.At(ring.Place{First: first, Many: many}, seq); big.NewInt(int64(at)).Cmp(want) != 0 {
					t.Errorf("At(%d, %d; %d) = %d, want %v", first, many, seq, at, want)
				}
			}
		}
	}
}

func TestAtOfNoSectors(t *testing.T) {
	for _, many := range []int{0, -1, -2, -4, -1024, -1 << 32, math.MinInt64 + 1, math.MinInt64} {
		for _, first := range []int{math.MinInt64, -1, 0, 1, 5, math.MaxInt64} {
			for _, seq := range seqs {
				if at := ring.At(ring.Place{First: first, Many: many, Epoch: 9}, seq); at != -1 {
					t.Errorf("At(%d, %d; %d) = %d, want -1", first, many, seq, at)
				}
			}
		}
	}
}

// P6.1: New.

func wantNoRing(t *testing.T, what string, d *vdisk.Disk, p ring.Place, low, next uint32) {
	t.Helper()
	if r := ring.New(d, p, low, next); r != nil {
		t.Errorf("%s: New(%d sectors, %v, %d, %d) isn't nil", what, d.Len(), p, low, next)
	}
}

func TestNewOfNoDisk(t *testing.T) {
	for _, p := range []ring.Place{{}, {Many: 1}, {First: 1, Many: 4, Epoch: 7}, {First: -1, Many: -1}, {First: math.MaxInt64, Many: math.MaxInt64}} {
		for _, n := range seqs {
			wantNoRing(t, "no disk", nil, p, n, n)
		}
	}
	wantNoRing(t, "no disk", vdisk.New(0), ring.Place{Many: 1}, 0, 0)
}

func TestNewOfPlacesThatMayNotBe(t *testing.T) {
	least, greatest := math.MinInt64, math.MaxInt64
	for _, p := range []ring.Place{
		{First: -1, Many: 1}, {First: -1, Many: 4}, {First: -1, Many: 7}, {First: -4, Many: 4}, {First: least, Many: 1}, {First: least, Many: greatest},
		{First: 0, Many: 0}, {First: 1, Many: 0}, {First: 0, Many: -1}, {First: 2, Many: -1}, {First: 6, Many: -5}, {First: 0, Many: least}, {First: greatest, Many: least}, {First: greatest, Many: -greatest},
		{First: 0, Many: 7}, {First: 1, Many: 6}, {First: 3, Many: 4}, {First: 5, Many: 2}, {First: 6, Many: 1}, {First: 7, Many: 1}, {First: 6, Many: 0}, {First: 6, Many: -1}, {First: 1024, Many: 1},
		{First: 0, Many: greatest}, {First: 1, Many: greatest}, {First: 2, Many: greatest}, {First: greatest, Many: 1}, {First: greatest, Many: 2}, {First: greatest, Many: 6}, {First: greatest, Many: greatest},
		{First: greatest - 3, Many: 4}, {First: greatest - 3, Many: 5}, {First: greatest/2 + 1, Many: greatest/2 + 1}, {First: -1, Many: least}, {First: least, Many: least},
		{First: 0, Many: 1 << 32}, {First: 1 << 32, Many: 1}, {First: 1 << 32, Many: 1<<32 + 1}, {First: 0, Many: 1<<32 + 1},
	} {
		d := junkDisk(t, 6)
		for _, epoch := range []uint32{0, 7} {
			p.Epoch = epoch
			wantNoRing(t, "a place that may not be", d, p, 0, 0)
			wantNoRing(t, "a place that may not be", d, p, 3, 4)
		}
		wantRow(t, "behind New", d, nil)
	}
}

// P6.1: every place beside a disk's edges, held against the chapter's words.
func TestNewOfEveryPlace(t *testing.T) {
	for _, secs := range []int{1, 2, 5, 1024} {
		d := vdisk.New(secs)
		for first := -2; first <= secs+2; first++ {
			for _, many := range []int{-1, 0, 1, 2, secs - first - 1, secs - first, secs - first + 1, secs, secs + 1} {
				may := first >= 0 && many >= 1 && first+many <= secs
				r := ring.New(d, ring.Place{First: first, Many: many, Epoch: 3}, 0, 0)
				if (r != nil) != may {
					t.Errorf("New(%d sectors, %d, %d) tells a ring: %v, want %v", secs, first, many, r != nil, may)
				}
				if r != nil {
					wantRing(t, "new", r, 0, 0, many)
				}
			}
		}
		if d.Pending() != 0 {
			t.Error("New writes")
		}
	}
}

// P6.1: every low and next beside the edges, held against the chapter's words.
func TestNewOfNumbers(t *testing.T) {
	for _, many := range []int{1, 2, 4, 1024} {
		d := vdisk.New(1024)
		for _, low := range seqs {
			nexts := slices.Clone(seqs)
			for _, by := range []int64{-int64(many) - 1, -int64(many), -2, -1, 0, 1, 2, int64(many) - 1, int64(many), int64(many) + 1} {
				nexts = append(nexts, uint32(int64(low)+by))
			}
			for _, next := range nexts {
				above := int64(next) - int64(low)
				may := above >= 0 && above <= int64(many) && next <= top
				r := ring.New(d, ring.Place{Many: many}, low, next)
				if (r != nil) != may {
					t.Errorf("New(%d; %d, %d) tells a ring: %v, want %v", many, low, next, r != nil, may)
				}
				if r != nil {
					wantRing(t, "new", r, low, next, many-int(above))
				}
			}
		}
	}
}

func TestNewOfNumbersAsWrittenOut(t *testing.T) {
	d, p := vdisk.New(6), ring.Place{First: 1, Many: 4, Epoch: 7}
	for _, w := range []struct {
		low, next uint32
		free      int
	}{
		{0, 0, 4}, {0, 1, 3}, {0, 3, 1}, {0, 4, 0}, {1, 4, 1}, {1, 5, 0}, {5, 5, 4}, {top - 4, top, 0}, {top - 1, top, 3}, {top, top, 4}, {top - 5, top - 1, 0},
	} {
		wantRing(t, "new", newRing(t, d, p, w.low, w.next), w.low, w.next, w.free)
	}
	for _, w := range [][2]uint32{
		{1, 0}, {4, 0}, {5, 4}, {math.MaxUint32, 0}, {math.MaxUint32, 3}, {math.MaxUint32 - 1, 1}, {top, top - 1}, {1 << 31, 0},
		{0, 5}, {1, 6}, {0, top}, {top - 5, top}, {0, 1 << 31}, {0, math.MaxUint32},
		{top, top + 1}, {top - 3, top + 1}, {top + 1, top + 1}, {1 << 31, 1 << 31}, {math.MaxUint32, math.MaxUint32}, {math.MaxUint32 - 4, math.MaxUint32},
	} {
		wantNoRing(t, "numbers that may not be", d, p, w[0], w[1])
	}
}

// P6.1: New writes nothing, and reads nothing: what is on the disk doesn't matter.
func TestNewLeavesTheDisk(t *testing.T) {
	d := junkDisk(t, 6)
	newRing(t, d, ring.Place{First: 1, Many: 4}, 3, 7)
	wantRow(t, "behind New", d, nil)
	for at := range 6 {
		if s := read(t, d, at); s != junk(at) {
			t.Errorf("sector %d is %q", at, s)
		}
	}
}

// P6.2: Append.

func TestAppendAsWrittenOut(t *testing.T) {
	d, p := junkDisk(t, 6), ring.Place{First: 1, Many: 4, Epoch: 0x01020304}
	r := newRing(t, d, p, 0, 0)
	zeros := strings.Repeat("\x00", 50)
	head := func(seq, flag, many byte) string {
		return "\x01\x02\x03\x04\x00\x00\x00" + string([]byte{seq, flag, many})
	}
	summed := func(s string) string {
		return string(binary.BigEndian.AppendUint32([]byte(s), crc32.Checksum([]byte(s), crc32.MakeTable(crc32.Castagnoli))))
	}
	a := strings.Repeat("a", 50)
	one := summed(head(0, 3, 2) + "hi" + zeros[:48])
	two, three := summed(head(1, 1, 50)+a), summed(head(2, 2, 1)+"b"+zeros[:49])
	wantAppend(t, r, []byte("hi"), 1)
	wantRing(t, "one", r, 0, 1, 3)
	wantAppend(t, r, []byte(a+"b"), 3)
	wantRing(t, "two", r, 0, 3, 1)
	wantRow(t, "two", d, []stroke{{1, one}, {2, two}, {3, three}})
	wantNoAppend(t, r, []byte(a+"b"), api.ErrFull)
	r.Truncate(1)
	wantAppend(t, r, []byte(a+"b"), 5)
	four, five := summed(head(3, 1, 50)+a), summed(head(4, 2, 1)+"b"+zeros[:49])
	wantRing(t, "three", r, 1, 5, 0)
	wantRow(t, "three", d, []stroke{{1, one}, {2, two}, {3, three}, {4, four}, {1, five}})
	for at, s := range []string{junk(0), five, two, three, four, junk(5)} {
		if got := read(t, d, at); got != s {
			t.Errorf("sector %d is %q, want %q", at, got, s)
		}
	}
}

// P6.2: a sum that is written out, too.
func TestAppendSumAsWrittenOut(t *testing.T) {
	d := vdisk.New(3)
	r := newRing(t, d, ring.Place{First: 0, Many: 3, Epoch: 1}, 2, 2)
	wantAppend(t, r, []byte("ab"), 3)
	want := "\x00\x00\x00\x01\x00\x00\x00\x02\x03\x02ab" + strings.Repeat("\x00", 48) + "\x28\x22\x0b\xd1"
	if got := read(t, d, 2); got != want {
		t.Errorf("sector 2 is %q, want %q", got, want)
	}
}

// P6.2: records of every length that has room, at each place of a ring, so that the end of the place is passed.
func TestAppendOfEdges(t *testing.T) {
	for _, p := range []ring.Place{{First: 0, Many: 1, Epoch: 0}, {First: 2, Many: 2, Epoch: 1}, {First: 0, Many: 3, Epoch: math.MaxUint32}, {First: 1, Many: 6, Epoch: 7}, {First: 4, Many: 4, Epoch: top}} {
		for _, next := range []uint32{0, 1, 2, 3, 4, 5, 6, 7, 255, 256, 65535, top - 20, top - 7} {
			for _, n := range lengths {
				many := framesOf(n)
				if many > p.Many {
					continue
				}
				for _, rec := range [][]byte{someRecord(n, 1), make([]byte, n)} {
					d := junkDisk(t, 8)
					r := newRing(t, d, p, next, next)
					wantAppend(t, r, rec, next+uint32(many))
					wantRing(t, "appended", r, next, next+uint32(many), p.Many-many)
					wantRow(t, "appended", d, strokesOf(p, next, rec))
				}
			}
		}
	}
}

// R2: no record is one without bytes; it has a frame.
func TestAppendOfNil(t *testing.T) {
	p := ring.Place{First: 1, Many: 2, Epoch: 5}
	for _, rec := range [][]byte{nil, {}, make([]byte, 0, 100)} {
		d := junkDisk(t, 4)
		r := newRing(t, d, p, 7, 7)
		wantAppend(t, r, rec, 8)
		wantAppend(t, r, rec, 9)
		wantRing(t, "nothing", r, 7, 9, 0)
		wantRow(t, "nothing", d, []stroke{{2, sectorOf(5, 7, 3, nil)}, {1, sectorOf(5, 8, 3, nil)}})
		wantNoAppend(t, r, rec, api.ErrFull)
		wantRing(t, "full", r, 7, 9, 0)
		wantRow(t, "full", d, []stroke{{2, sectorOf(5, 7, 3, nil)}, {1, sectorOf(5, 8, 3, nil)}})
	}
}

// wantTry asks of an Append, and of all that it leaves, what the chapter's words say.
func wantTry(t *testing.T, p ring.Place, low, next uint32, rec []byte) {
	t.Helper()
	d := junkDisk(t, p.First+p.Many+1)
	r := newRing(t, d, p, low, next)
	many, free := framesOf(len(rec)), p.Many-int(next-low)
	switch {
	case many > free:
		wantNoAppend(t, r, rec, api.ErrFull)
	case int(next)+many > top:
		wantNoAppend(t, r, rec, api.ErrOver)
	default:
		wantAppend(t, r, rec, next+uint32(many))
		wantRing(t, "appended", r, low, next+uint32(many), free-many)
		wantRow(t, "appended", d, strokesOf(p, next, rec))
		return
	}
	wantRing(t, "behind an error", r, low, next, free)
	wantRow(t, "behind an error", d, nil)
}

// P6.2 and R1: ErrFull just where there are more frames than free sectors.
func TestAppendWithoutRoom(t *testing.T) {
	for _, many := range []int{1, 2, 4, 5} {
		for kept := range many + 1 {
			for _, low := range []uint32{0, 1, 3, 1000} {
				for n := range 8 {
					for _, size := range []int{50 * n, 50*n + 1, 50*n + 49} {
						wantTry(t, ring.Place{First: 1, Many: many, Epoch: 7}, low, low+uint32(kept), someRecord(size, 3))
					}
				}
			}
		}
	}
	for _, size := range []int{50 * 100, 1 << 16, 50 * 65536, 50*65536 + 50} {
		wantTry(t, ring.Place{First: 1, Many: 4, Epoch: 7}, 0, 1, someRecord(size, 3))
	}
}

// P6.2 and R1: ErrOver just where Next and as many are above 2^30, ErrFull if both are so.
func TestAppendPastTheTop(t *testing.T) {
	for _, many := range []int{1, 2, 4, 5} {
		for kept := range many + 1 {
			for below := range 7 {
				for n := range 8 {
					for _, size := range []int{50 * n, 50*n + 1} {
						next := uint32(top - below)
						wantTry(t, ring.Place{First: 1, Many: many, Epoch: 7}, next-uint32(kept), next, someRecord(size, 3))
					}
				}
			}
		}
	}
}

func TestAppendPastTheTopAsWrittenOut(t *testing.T) {
	for _, w := range []struct {
		low, next uint32
		size      int
		want      uint32
		e         api.Errno
	}{
		{top, top, 0, 0, api.ErrOver}, {top - 3, top, 0, 0, api.ErrOver}, {top - 4, top, 0, 0, api.ErrFull}, {top, top, 201, 0, api.ErrFull},
		{top - 1, top - 1, 0, top, api.OK}, {top - 1, top - 1, 50, top, api.OK}, {top - 1, top - 1, 51, 0, api.ErrOver}, {top - 1, top - 1, 200, 0, api.ErrOver}, {top - 1, top - 1, 201, 0, api.ErrFull},
		{top - 4, top - 4, 200, top, api.OK}, {top - 4, top - 3, 150, top, api.OK}, {top - 4, top - 3, 151, 0, api.ErrFull}, {top - 4, top - 4, 201, 0, api.ErrFull}, {top - 3, top - 3, 151, 0, api.ErrOver},
	} {
		r := newRing(t, vdisk.New(4), ring.Place{Many: 4}, w.low, w.next)
		if n, e := r.Append(make([]byte, w.size)); n != w.want || e != w.e {
			t.Errorf("at %d, %d: Append of %d bytes = %d, %d, want %d, %d", w.low, w.next, w.size, n, e, w.want, w.e)
		}
	}
}

// P6.2: behind an error the ring goes on as if it hadn't been asked.
func TestAppendBehindAnError(t *testing.T) {
	d, p := junkDisk(t, 4), ring.Place{First: 0, Many: 3, Epoch: 2}
	r := newRing(t, d, p, top-4, top-4)
	a, b, c := someRecord(60, 1), someRecord(20, 2), someRecord(50, 3)
	wantAppend(t, r, a, top-2)
	wantNoAppend(t, r, a, api.ErrFull)
	wantAppend(t, r, b, top-1)
	wantNoAppend(t, r, b, api.ErrFull)
	r.Truncate(top - 1)
	wantNoAppend(t, r, a, api.ErrOver)
	wantAppend(t, r, c, top)
	wantNoAppend(t, r, nil, api.ErrOver)
	wantRing(t, "at the top", r, top-1, top, 2)
	wantRow(t, "at the top", d, slices.Concat(strokesOf(p, top-4, a), strokesOf(p, top-2, b), strokesOf(p, top-1, c)))
}

// P6.2: the writes stand in the disk's row behind those of others, and aren't synced.
func TestAppendDoesNotSync(t *testing.T) {
	d, p := junkDisk(t, 6), ring.Place{First: 1, Many: 4, Epoch: 7}
	d.Write(5, []byte("other"))
	r := newRing(t, d, p, 0, 0)
	wantAppend(t, r, someRecord(60, 1), 2)
	if d.Pending() != 3 {
		t.Errorf("Pending() = %d, want 3", d.Pending())
	}
	d.Crash([]bool{true, false, true})
	for at, s := range []string{junk(0), junk(1), strokesOf(p, 0, someRecord(60, 1))[1].s, junk(3), junk(4), "other" + strings.Repeat("\x00", 59)} {
		if got := read(t, d, at); got != s {
			t.Errorf("sector %d is %q, want %q", at, got, s)
		}
	}
	wantRing(t, "behind a crash", r, 0, 2, 2)
}

// The chapter's example.
func TestTwoRecordsHaveRoomAndAThirdBehindATruncation(t *testing.T) {
	d, p := junkDisk(t, 6), ring.Place{First: 1, Many: 4, Epoch: 7}
	r := newRing(t, d, p, 0, 0)
	wantAppend(t, r, make([]byte, 60), 2)
	wantAppend(t, r, make([]byte, 60), 4)
	wantNoAppend(t, r, make([]byte, 60), api.ErrFull)
	r.Truncate(1)
	wantNoAppend(t, r, make([]byte, 60), api.ErrFull)
	r.Truncate(2)
	wantAppend(t, r, make([]byte, 60), 6)
	wantRing(t, "a third one", r, 2, 6, 0)
}

// P6.2: Truncate.

func TestTruncateOfEdges(t *testing.T) {
	for _, w := range []struct{ low, next uint32 }{{0, 0}, {0, 1}, {0, 4}, {1, 1}, {3, 5}, {7, 7}, {100, 104}, {top - 4, top}, {top, top}} {
		lows := slices.Clone(seqs)
		for by := range uint32(10) {
			lows = append(lows, w.low-by, w.low+by, w.next+by, w.next-by)
		}
		for _, low := range lows {
			d := junkDisk(t, 6)
			r := newRing(t, d, ring.Place{First: 1, Many: 4, Epoch: 7}, w.low, w.next)
			want := w.low
			if int64(low) > int64(w.low) && int64(low) <= int64(w.next) {
				want = low
			}
			r.Truncate(low)
			wantRing(t, "truncated", r, want, w.next, 4-int(w.next-want))
			wantRow(t, "truncated", d, nil)
		}
	}
}

func TestTruncateAsWrittenOut(t *testing.T) {
	d := junkDisk(t, 6)
	r := newRing(t, d, ring.Place{First: 1, Many: 4, Epoch: 7}, 5, 9)
	for _, w := range []struct {
		to, low uint32
		free    int
	}{
		{0, 5, 0}, {4, 5, 0}, {5, 5, 0}, {10, 5, 0}, {math.MaxUint32, 5, 0}, {6, 6, 1}, {5, 6, 1}, {6, 6, 1}, {8, 8, 3}, {7, 8, 3}, {10, 8, 3}, {9, 9, 4}, {9, 9, 4}, {10, 9, 4}, {0, 9, 4},
	} {
		r.Truncate(w.to)
		wantRing(t, "truncated", r, w.low, 9, w.free)
	}
	wantRow(t, "truncated", d, nil)
	wantAppend(t, r, someRecord(200, 1), 13)
	wantRing(t, "appended", r, 9, 13, 0)
	r.Truncate(13)
	wantRing(t, "truncated again", r, 13, 13, 4)
}

// P6.2: a Ring that is nil.
func TestNilRing(t *testing.T) {
	var r *ring.Ring
	for _, n := range append(slices.Clone(lengths), 1<<16) {
		wantNoAppend(t, r, someRecord(n, 1), api.ErrArg)
	}
	wantNoAppend(t, r, nil, api.ErrArg)
	for _, n := range seqs {
		r.Truncate(n)
	}
	wantRing(t, "nil", r, 0, 0, 0)
	none := ring.New(nil, ring.Place{}, 0, 0)
	wantNoAppend(t, none, []byte("a"), api.ErrArg)
	wantRing(t, "New's nil", none, 0, 0, 0)
}

// R3: what is handed in stays, with what is behind it, and isn't shared.
func TestAppendSharesNothing(t *testing.T) {
	for _, n := range []int{0, 1, 49, 50, 51, 100, 150} {
		d, p := junkDisk(t, 6), ring.Place{First: 1, Many: 4, Epoch: 7}
		r := newRing(t, d, p, 2, 2)
		whole := someRecord(n+100, 9)
		was := bytes.Clone(whole)
		wantAppend(t, r, whole[:n], 2+uint32(framesOf(n)))
		if !bytes.Equal(whole, was) {
			t.Errorf("Append of %d bytes changed what was handed in", n)
		}
		for i := range whole {
			whole[i] = 0xcc
		}
		wantRow(t, "behind a change of what was handed in", d, strokesOf(p, 2, was[:n]))
		r.Truncate(3)
		wantAppend(t, r, []byte("more"), 3+uint32(framesOf(n)))
		d.Sync()
		if strings.Trim(string(whole), "\xcc") != "" {
			t.Errorf("Append of %d bytes writes to what was handed in later on", n)
		}
	}
}

// R3: nor does it write beside a record that fails.
func TestAppendThatFailsLeavesWhatIsHandedIn(t *testing.T) {
	whole := someRecord(400, 9)
	was := bytes.Clone(whole)
	wantNoAppend(t, newRing(t, vdisk.New(4), ring.Place{Many: 4}, 0, 0), whole[:201], api.ErrFull)
	wantNoAppend(t, newRing(t, vdisk.New(4), ring.Place{Many: 4}, top, top), whole[:1], api.ErrOver)
	wantNoAppend(t, nil, whole[:1], api.ErrArg)
	if !bytes.Equal(whole, was) {
		t.Error("Append changed what was handed in")
	}
}

// R3: a place that is handed in is the caller's own afterwards.
func TestPlaceIsNotShared(t *testing.T) {
	d, p := junkDisk(t, 6), ring.Place{First: 1, Many: 4, Epoch: 7}
	r := newRing(t, d, p, 0, 0)
	was := p
	p.First, p.Many, p.Epoch = 0, 1, 9
	wantAppend(t, r, someRecord(60, 1), 2)
	wantRow(t, "appended", d, strokesOf(was, 0, someRecord(60, 1)))
	wantRing(t, "appended", r, 0, 2, 2)
}

// R4: rings on one disk, and on several, keep their numbers apart.
func TestRingsShareNoNumbers(t *testing.T) {
	d, other := junkDisk(t, 8), junkDisk(t, 8)
	p, q := ring.Place{First: 0, Many: 3, Epoch: 1}, ring.Place{First: 3, Many: 5, Epoch: 2}
	a, b, c := newRing(t, d, p, 0, 0), newRing(t, d, q, 10, 12), newRing(t, other, p, 4, 4)
	wantAppend(t, a, someRecord(60, 1), 2)
	wantRing(t, "the second one", b, 10, 12, 3)
	wantRing(t, "the one of another disk", c, 4, 4, 3)
	wantAppend(t, b, someRecord(120, 2), 15)
	a.Truncate(1)
	wantRing(t, "the first one", a, 1, 2, 2)
	wantRing(t, "the second one", b, 10, 15, 0)
	wantRing(t, "the one of another disk", c, 4, 4, 3)
	wantRow(t, "both", d, append(strokesOf(p, 0, someRecord(60, 1)), strokesOf(q, 12, someRecord(120, 2))...))
	wantRow(t, "the other disk", other, nil)
}

// P6.3: whatever is done.

// plain is a ring in the chapter's words: the records that were appended, each with the numbers of its frames.
type plain struct {
	p         ring.Place
	low, next int
	recs      []laid
	row       []stroke
}

type laid struct {
	from, end int
	rec       []byte
}

func (x *plain) free() int { return x.p.Many - x.next + x.low }

func (x *plain) append(rec []byte) (uint32, api.Errno) {
	many := framesOf(len(rec))
	if many > x.free() {
		return 0, api.ErrFull
	}
	if x.next+many > top {
		return 0, api.ErrOver
	}
	x.row = append(x.row, strokesOf(x.p, uint32(x.next), rec)...)
	x.recs = append(x.recs, laid{x.next, x.next + many, bytes.Clone(rec)})
	x.next += many
	return uint32(x.next), api.OK
}

func (x *plain) truncate(low uint32) {
	if int(low) > x.low && int(low) <= x.next {
		x.low = int(low)
	}
}

// kept are the records whose frames are all from Low on.
func (x *plain) kept() [][]byte {
	var all [][]byte
	for _, l := range x.recs {
		if l.from >= x.low {
			all = append(all, l.rec)
		}
	}
	return all
}

// found are the records that a ring's frames from Low on tell, read off the disk one by one; frames of a record whose begin isn't kept are passed by.
func found(t *testing.T, d *vdisk.Disk, p ring.Place, r *ring.Ring) [][]byte {
	t.Helper()
	var all [][]byte
	var rec []byte
	begun := false
	for seq := r.Low(); seq < r.Next(); seq++ {
		f, e := frame.Parse([]byte(read(t, d, ring.At(p, seq))))
		if e != api.OK || f.Seq != seq || f.Epoch != p.Epoch {
			t.Fatalf("number %d of %d to %d: the sector tells %v, %d", seq, r.Low(), r.Next(), f, e)
		}
		if f.Flag&frame.First != 0 {
			rec, begun = nil, true
		}
		rec = append(rec, f.Body...)
		if f.Flag&frame.Last != 0 && begun {
			all, begun = append(all, rec), false
		}
	}
	if begun {
		t.Fatal("the last record isn't whole")
	}
	return all
}

func sectorsOf(t *testing.T, d *vdisk.Disk) []string {
	t.Helper()
	var all []string
	for at := range d.Len() {
		all = append(all, read(t, d, at))
	}
	return all
}

// step does one thing to a ring and to a plain one, and asks whether they are alike then, and whether what was kept stayed.
func step(t *testing.T, d *vdisk.Disk, r *ring.Ring, x *plain, kind int, n uint32) {
	t.Helper()
	before, low, next, pending := sectorsOf(t, d), x.low, x.next, d.Pending()
	if kind%4 == 0 {
		r.Truncate(n)
		x.truncate(n)
		if d.Pending() != pending {
			t.Fatalf("Truncate(%d) writes", n)
		}
	} else {
		rec := someRecord(int(n%400), byte(n))
		got, e := r.Append(rec)
		want, wantE := x.append(rec)
		if got != want || e != wantE {
			t.Fatalf("at %d, %d: Append of %d bytes = %d, %d, want %d, %d", low, next, len(rec), got, e, want, wantE)
		}
		if d.Pending()-pending != x.next-next {
			t.Fatalf("Append of %d bytes writes %d times, want %d", len(rec), d.Pending()-pending, x.next-next)
		}
	}
	wantRing(t, "a step", r, uint32(x.low), uint32(x.next), x.free())
	after := sectorsOf(t, d)
	for at := range after {
		if (at < x.p.First || at >= x.p.First+x.p.Many) && after[at] != junk(at) {
			t.Fatalf("sector %d, outside of %v, was written", at, x.p)
		}
	}
	for seq := low; seq < next; seq++ {
		if at := x.p.First + seq%x.p.Many; after[at] != before[at] {
			t.Fatalf("sector %d, of the kept number %d, was written again", at, seq)
		}
	}
	if got, want := found(t, d, x.p, r), x.kept(); !slices.EqualFunc(got, want, bytes.Equal) {
		t.Fatalf("the records are %q, want %q", got, want)
	}
}

func TestWhateverIsDone(t *testing.T) {
	random := rand.New(rand.NewSource(1))
	for range 300 {
		p := ring.Place{First: random.Intn(4), Many: 1 + random.Intn(9), Epoch: random.Uint32()}
		d := junkDisk(t, p.First+p.Many+random.Intn(3))
		start := []int{0, 1, random.Intn(1000), top - random.Intn(40)}[random.Intn(4)]
		r, x := newRing(t, d, p, uint32(start), uint32(start)), &plain{p: p, low: start, next: start}
		for range 60 {
			n := random.Uint32()
			kind := random.Intn(8)
			if kind%4 == 0 {
				n = uint32(x.low - 2 + random.Intn(x.next-x.low+5))
			}
			step(t, d, r, x, kind, n)
		}
		wantRow(t, "all of it", d, x.row)
	}
}

// P6.3: a sector that is written is that of a number that was let go, or of none: told by the row alone.
func TestNoKeptSectorIsWrittenAgain(t *testing.T) {
	for many := 1; many <= 5; many++ {
		d, p := junkDisk(t, many+2), ring.Place{First: 1, Many: many, Epoch: 7}
		r := newRing(t, d, p, 0, 0)
		for i := range 40 {
			low, next, pending := int(r.Low()), int(r.Next()), d.Pending()
			_, e := r.Append(someRecord(i*37%200, byte(i)))
			for _, w := range row(t, d)[pending:] {
				for seq := low; seq < next; seq++ {
					if w.at == p.First+seq%many {
						t.Errorf("sector %d, of the kept number %d, was written again", w.at, seq)
					}
				}
				if w.at < 1 || w.at > many {
					t.Errorf("sector %d, outside of the place, was written", w.at)
				}
			}
			if e == api.ErrFull {
				r.Truncate(r.Low() + 1)
			}
		}
	}
}

// P6.3: a ring that is opened anew at the numbers of another one goes on where that one ended.
func TestGoingOnWithANewRing(t *testing.T) {
	d, p := junkDisk(t, 7), ring.Place{First: 1, Many: 5, Epoch: 7}
	r, x := newRing(t, d, p, 0, 0), &plain{p: p}
	for i := range 60 {
		step(t, d, r, x, i%3, uint32(i*53%260))
		step(t, d, r, x, 0, r.Low()+uint32(i%3))
		r = newRing(t, d, p, r.Low(), r.Next())
	}
	wantRow(t, "all of it", d, x.row)
}

// P1: whatever is asked of whatever ring.
func FuzzRing(f *testing.F) {
	f.Add(6, 1, 4, uint32(7), uint32(0), uint32(0), []byte("\x01\x00\x3c\x01\x00\x3c\x01\x00\x3c\x00\x00\x02\x01\x00\x3c"))
	f.Add(3, 0, 3, uint32(0), uint32(top-2), uint32(top-1), []byte("\x01\x00\x01\x01\x00\x01"))
	f.Add(3, math.MaxInt64, math.MaxInt64, uint32(0), uint32(5), uint32(4), []byte{})
	f.Fuzz(func(t *testing.T, secs, first, many int, epoch, low, next uint32, b []byte) {
		p := ring.Place{First: first, Many: many, Epoch: epoch}
		ring.At(p, low)
		if secs < 1 || secs > 1024 {
			wantNoRing(t, "no disk", vdisk.New(secs), p, low, next)
			return
		}
		d := junkDisk(t, secs)
		above := int64(next) - int64(low)
		if first < 0 || many < 1 || many > secs || first > secs-many || above < 0 || above > int64(many) || next > top {
			wantNoRing(t, "none that may be", d, p, low, next)
			return
		}
		r := newRing(t, d, p, low, next)
		// What is kept ahead of all isn't on the disk, and is let go.
		r.Truncate(next)
		x := &plain{p: p, low: int(next), next: int(next)}
		for i := 0; i+2 < len(b) && i < 300; i += 3 {
			n := uint32(b[i+1])<<8 | uint32(b[i+2])
			if b[i]%4 == 0 {
				n += r.Low()
			}
			step(t, d, r, x, int(b[i]), n)
		}
		wantRow(t, "all of it", d, x.row)
	})
}

// Ways: a ring's place is embedded.
func TestPlaceIsEmbedded(t *testing.T) {
	file := parsed(t)
	embedded := false
	ast.Inspect(file, func(n ast.Node) bool {
		if s, ok := n.(*ast.TypeSpec); ok && s.Name.Name == "Ring" {
			for _, f := range s.Type.(*ast.StructType).Fields.List {
				name, ok := f.Type.(*ast.Ident)
				embedded = embedded || ok && len(f.Names) == 0 && name.Name == "Place"
			}
		}
		return true
	})
	if !embedded {
		t.Error("Ring has no Place embedded")
	}
}

func parsed(t *testing.T) *ast.File {
	t.Helper()
	file, err := parser.ParseFile(token.NewFileSet(), "ring.go", nil, 0)
	if err != nil {
		t.Fatal(err)
	}
	return file
}

// R4 and R6: the package keeps nothing from call to call but in rings, and calls no layer but vdisk and frame.
func TestRingCallsVdiskAndFrameAlone(t *testing.T) {
	file := parsed(t)
	for _, i := range file.Imports {
		p := strings.Trim(i.Path.Value, `"`)
		if strings.HasPrefix(p, "ogive/") && p != "ogive/api" && p != "ogive/vdisk" && p != "ogive/frame" {
			t.Errorf("ring imports %s", p)
		}
	}
	for _, d := range file.Decls {
		if g, ok := d.(*ast.GenDecl); ok && g.Tok == token.VAR {
			t.Error("ring has a variable at package level")
		}
	}
}
