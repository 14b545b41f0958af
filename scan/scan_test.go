package scan_test

import (
	"bytes"
	"encoding/binary"
	"go/ast"
	"go/parser"
	"go/token"
	"hash/crc32"
	"math"
	"math/big"
	"math/rand"
	"slices"
	"strconv"
	"strings"
	"testing"

	"ogive/api"
	"ogive/ring"
	"ogive/scan"
	"ogive/vdisk"
)

// froms are edges of numbers.
var froms = []uint32{0, 1, 2, 3, 7, 8, 255, 256, 1023, 1024, 1<<16 - 1, 1 << 16, 1<<30 - 1, 1 << 30, 1<<30 + 1, math.MaxInt32, 1 << 31, math.MaxUint32 - 3, math.MaxUint32 - 1, math.MaxUint32}

// A rec is what a scan.Rec should be, as a value that is compared.
type rec struct {
	end  uint32
	body string
}

// Bodies are no texts, so a failure tells them quoted.
func (r rec) String() string {
	return strconv.FormatUint(uint64(r.end), 10) + ": " + strconv.Quote(r.body)
}

// A part is a frame of the chapters' words.
type part struct {
	epoch, seq uint32
	flag       byte
	body       string
}

// sector is a frame's sector in the words of its chapter.
func (f part) sector() string {
	b := binary.BigEndian.AppendUint32(nil, f.epoch)
	b = binary.BigEndian.AppendUint32(b, f.seq)
	b = append(b, f.flag, byte(len(f.body)))
	b = append(b, f.body...)
	for len(b) < 60 {
		b = append(b, 0)
	}
	return string(binary.BigEndian.AppendUint32(b, crc32.Checksum(b, crc32.MakeTable(crc32.Castagnoli))))
}

// partOf is the frame that a sector is, if it is one.
func partOf(s string) (part, bool) {
	b := []byte(s)
	if len(b) != 64 || b[9] > 50 {
		return part{}, false
	}
	f := part{binary.BigEndian.Uint32(b), binary.BigEndian.Uint32(b[4:]), b[8], s[10 : 10+int(b[9])]}
	return f, f.sector() == s
}

// someText is n bytes, none of which is like its neighbours, beginning with a byte that hangs on from.
func someText(n int, from byte) string {
	b := make([]byte, n)
	for i := range b {
		b[i] = from + byte(i)*7
	}
	return string(b)
}

// junk is a sector that is no frame.
func junk(at int) string { return someText(64, byte(at)) }

// junkDisk is a disk of synced sectors that are no frames.
func junkDisk(t *testing.T, secs int) *vdisk.Disk {
	t.Helper()
	d := vdisk.New(secs)
	if d == nil {
		t.Fatalf("vdisk.New(%d) = nil", secs)
	}
	for at := range secs {
		put(t, d, at, junk(at))
	}
	d.Sync()
	return d
}

func put(t *testing.T, d *vdisk.Disk, at int, s string) {
	t.Helper()
	if e := d.Write(at, []byte(s)); e != api.OK {
		t.Fatalf("Write(%d) = %d", at, e)
	}
}

// lay writes frames, each to the sector of its place that is its number's.
func lay(t *testing.T, d *vdisk.Disk, p ring.Place, parts ...part) {
	t.Helper()
	for _, f := range parts {
		put(t, d, p.First+int(f.seq)%p.Many, f.sector())
	}
}

func sectorsOf(t *testing.T, d *vdisk.Disk) []string {
	t.Helper()
	var all []string
	for at := range d.Len() {
		b, e := d.Read(at)
		if e != api.OK {
			t.Fatalf("Read(%d) = %d", at, e)
		}
		all = append(all, string(b))
	}
	return all
}

func told(recs []scan.Rec) []rec {
	var all []rec
	for _, r := range recs {
		all = append(all, rec{r.End, string(r.Body)})
	}
	return all
}

// wantRead asks a Read for records and a number, and that it leaves the disk, what is synced of it and what isn't.
func wantRead(t *testing.T, what string, d *vdisk.Disk, p ring.Place, from uint32, want []rec, next uint32) {
	t.Helper()
	was, pending := d.Copy(), d.Pending()
	recs, n := scan.Read(d, p, from)
	if got := told(recs); !slices.Equal(got, want) || n != next {
		t.Errorf("%s: Read(%d sectors, %v, %d) = %v, %d, want %v, %d", what, d.Len(), p, from, got, n, want, next)
	}
	if d.Pending() != pending || !slices.Equal(sectorsOf(t, d), sectorsOf(t, was)) {
		t.Errorf("%s: Read changed the disk", what)
	}
	after := d.Copy()
	after.Crash(nil)
	was.Crash(nil)
	if !slices.Equal(sectorsOf(t, after), sectorsOf(t, was)) {
		t.Errorf("%s: Read did writes of the row", what)
	}
}

// modelled is what the chapter's words ask of a Read: first the frames that are gone through, then their records.
func modelled(sectors []string, p ring.Place, from uint32) ([]rec, uint32) {
	if len(sectors) == 0 || p.Many < 1 || p.First < 0 {
		return nil, from
	}
	var parts []part
	for len(parts) < p.Many {
		seq := uint32((uint64(from) + uint64(len(parts))) % (1 << 32))
		at := new(big.Int).Mod(new(big.Int).SetUint64(uint64(seq)), big.NewInt(int64(p.Many)))
		at.Add(at, big.NewInt(int64(p.First)))
		if at.Cmp(big.NewInt(int64(len(sectors)))) >= 0 {
			break
		}
		f, ok := partOf(sectors[at.Int64()])
		begins := len(parts) == 0 || parts[len(parts)-1].flag%4 >= 2
		if !ok || f.epoch != p.Epoch || f.seq != seq || (f.flag%2 == 1) != begins {
			break
		}
		parts = append(parts, f)
	}
	var recs []rec
	next, body := from, ""
	for _, f := range parts {
		if f.flag%2 == 1 {
			body = ""
		}
		body += f.body
		if f.flag%4 >= 2 {
			next = uint32((uint64(f.seq) + 1) % (1 << 32))
			recs = append(recs, rec{next, body})
		}
	}
	return recs, next
}

func wantModelled(t *testing.T, what string, d *vdisk.Disk, p ring.Place, from uint32) {
	t.Helper()
	recs, next := modelled(sectorsOf(t, d), p, from)
	wantRead(t, what, d, p, from, recs, next)
}

// P7.1: nothing, and from.

func TestReadOfNoDisk(t *testing.T) {
	for _, p := range []ring.Place{{}, {Many: 1}, {First: 1, Many: 4, Epoch: 7}, {First: -1, Many: -1}, {First: math.MaxInt64, Many: math.MaxInt64}, {Many: math.MaxInt64}} {
		for _, from := range froms {
			wantRead(t, "no disk", nil, p, from, nil, from)
		}
	}
}

// Each of these places would have frames, if Many or First were not what they are.
func TestReadOfPlacesThatMayNotBe(t *testing.T) {
	d := junkDisk(t, 8)
	for seq := range uint32(8) {
		put(t, d, int(seq), part{7, seq, 3, "a"}.sector())
	}
	for _, first := range []int{math.MinInt64, -1, 0, 1, 2, 7, math.MaxInt64} {
		for _, many := range []int{0, -1, -2, -4, -8, -1 << 32, math.MinInt64 + 1, math.MinInt64} {
			for _, from := range froms {
				wantRead(t, "no sectors", d, ring.Place{First: first, Many: many, Epoch: 7}, from, nil, from)
			}
		}
	}
	for _, many := range []int{1, 2, 4, 8, 9, 16, 1 << 32, math.MaxInt64} {
		for _, first := range []int{-1, -2, -7, -8, -9, -1 << 32, math.MinInt64 + 1, math.MinInt64} {
			for _, from := range froms {
				wantRead(t, "a place ahead of the disk", d, ring.Place{First: first, Many: many, Epoch: 7}, from, nil, from)
			}
		}
	}
}

// The frames of a First below 0 stand where At says, and aren't found all the same.
func TestReadOfAFirstBelowZero(t *testing.T) {
	d := junkDisk(t, 8)
	p := ring.Place{First: -2, Many: 8, Epoch: 7}
	for seq := uint32(2); seq < 8; seq++ {
		put(t, d, ring.At(p, seq), part{7, seq, 3, "a"}.sector())
	}
	for from := range uint32(9) {
		wantRead(t, "First below 0", d, p, from, nil, from)
	}
}

func TestReadOfNoFrames(t *testing.T) {
	for _, d := range []*vdisk.Disk{vdisk.New(1), vdisk.New(8), vdisk.New(1024), junkDisk(t, 1), junkDisk(t, 8)} {
		for _, p := range []ring.Place{{Many: 1}, {Many: d.Len()}, {First: d.Len() - 1, Many: 1}, {First: d.Len() / 2, Many: 1 + d.Len()/4, Epoch: 7}} {
			for _, from := range froms {
				wantRead(t, "no frames", d, p, from, nil, from)
			}
		}
	}
}

// P7.1: records.

func TestReadAsWrittenOut(t *testing.T) {
	d, p := junkDisk(t, 10), ring.Place{First: 1, Many: 8, Epoch: 0x01020304}
	zeros := strings.Repeat("\x00", 50)
	head := func(seq, flag, many byte) string {
		return "\x01\x02\x03\x04\x00\x00\x00" + string([]byte{seq, flag, many})
	}
	summed := func(s string) string {
		return string(binary.BigEndian.AppendUint32([]byte(s), crc32.Checksum([]byte(s), crc32.MakeTable(crc32.Castagnoli))))
	}
	a, b := strings.Repeat("a", 50), strings.Repeat("b", 50)
	put(t, d, 7, summed(head(6, 3, 2)+"hi"+zeros[:48]))
	put(t, d, 8, summed(head(7, 1, 50)+a))
	put(t, d, 1, summed(head(8, 0, 50)+b))
	put(t, d, 2, summed(head(9, 2, 1)+"c"+zeros[:49]))
	put(t, d, 3, summed(head(10, 3, 0)+zeros))
	put(t, d, 4, summed(head(11, 3, 50)+b))
	put(t, d, 5, summed(head(12, 1, 50)+a))
	all := []rec{{7, "hi"}, {10, a + b + "c"}, {11, ""}, {12, b}}
	wantRead(t, "all", d, p, 6, all, 12)
	wantRead(t, "from 7", d, p, 7, all[1:], 12)
	wantRead(t, "from 10", d, p, 10, all[2:], 12)
	wantRead(t, "from 11", d, p, 11, all[3:], 12)
	for _, from := range []uint32{0, 1, 5, 8, 9, 12, 13, 14, math.MaxUint32} {
		wantRead(t, "no record begins there", d, p, from, nil, from)
	}
	put(t, d, 6, summed(head(13, 2, 1)+"d"+zeros[:49]))
	wantRead(t, "one more", d, p, 6, append(all, rec{14, a + "d"}), 14)
	wantRead(t, "from 12", d, p, 12, []rec{{14, a + "d"}}, 14)
}

// P7.1: a sum that is written out, too.
func TestReadSumAsWrittenOut(t *testing.T) {
	d := vdisk.New(3)
	put(t, d, 2, "\x00\x00\x00\x01\x00\x00\x00\x02\x03\x02ab"+strings.Repeat("\x00", 48)+"\x28\x22\x0b\xd1")
	p := ring.Place{First: 0, Many: 3, Epoch: 1}
	wantRead(t, "one", d, p, 2, []rec{{3, "ab"}}, 3)
	wantRead(t, "behind it", d, p, 3, nil, 3)
}

// cut is a text as frames, in the words of their chapter.
func cut(epoch, seq uint32, text string) []part {
	var parts []part
	for rest := text; len(parts) == 0 || rest != ""; {
		n := min(50, len(rest))
		parts = append(parts, part{epoch, seq + uint32(len(parts)), 0, rest[:n]})
		rest = rest[n:]
	}
	parts[0].flag++
	parts[len(parts)-1].flag += 2
	return parts
}

// P7.1: records of every length, alone and behind each other, from any number on, so that places and numbers go round.
func TestReadOfEveryLength(t *testing.T) {
	for _, p := range []ring.Place{{First: 0, Many: 8, Epoch: 0}, {First: 2, Many: 16, Epoch: 7}, {First: 3, Many: 64, Epoch: math.MaxUint32}} {
		for _, from := range append(slices.Clone(froms), 4, 5, 6) {
			for _, lengths := range [][]int{{0}, {1}, {49}, {50}, {51}, {99}, {100}, {101}, {150}, {151}, {400}, {0, 0, 0}, {50, 51, 0, 49}, {101, 1, 100}, {1, 2, 3, 4, 5, 6, 7, 8}, {200, 200}} {
				d := junkDisk(t, 70)
				var want []rec
				next := from
				for i, n := range lengths {
					text := someText(n, byte(i))
					parts := cut(p.Epoch, next, text)
					lay(t, d, p, parts...)
					next += uint32(len(parts))
					want = append(want, rec{next, text})
				}
				wantRead(t, "not synced", d, p, from, want, next)
				d.Sync()
				wantRead(t, "synced", d, p, from, want, next)
				wantRead(t, "behind all", d, p, next, nil, next)
				for i, r := range want {
					wantRead(t, "behind a record", d, p, r.end, want[i+1:], next)
				}
			}
		}
	}
}

// P7.1: zeros are bytes as any others, at a body's end, too.
func TestReadOfZeros(t *testing.T) {
	d, p := junkDisk(t, 8), ring.Place{First: 0, Many: 8, Epoch: 0}
	var want []rec
	next := uint32(0)
	for _, n := range []int{1, 50, 51, 100} {
		parts := cut(0, next, strings.Repeat("\x00", n))
		lay(t, d, p, parts...)
		next += uint32(len(parts))
		want = append(want, rec{next, strings.Repeat("\x00", n)})
	}
	wantRead(t, "zeros", d, p, 0, want, 6)
}

// P7.1: Many numbers at most, where all sectors are frames in turn.
func TestReadOfAFullPlace(t *testing.T) {
	for _, many := range []int{1, 2, 3, 5, 8, 1024} {
		for _, from := range []uint32{0, 1, 2, 3, 1000, 1 << 30, 1<<32 - 2000} {
			d := vdisk.New(1024)
			p := ring.Place{First: (1024 - many) / 2, Many: many, Epoch: 3}
			var each []rec
			whole := ""
			for i := range many {
				lay(t, d, p, part{3, from + uint32(i), 3, string(rune('a' + i%26))})
				each = append(each, rec{from + uint32(i) + 1, string(rune('a' + i%26))})
				whole += each[i].body
			}
			wantRead(t, "a record each", d, p, from, each, from+uint32(many))
			for i := range many {
				flag := byte(0)
				if i == 0 {
					flag++
				}
				if i == many-1 {
					flag += 2
				}
				lay(t, d, p, part{3, from + uint32(i), flag, each[i].body})
			}
			wantRead(t, "one record", d, p, from, []rec{{from + uint32(many), whole}}, from+uint32(many))
			lay(t, d, p, part{3, from + uint32(many) - 1, byte(1 >> min(1, many-1)), "z"})
			wantRead(t, "a record without an end", d, p, from, nil, from)
		}
	}
}

// P7.1: where it ends.

// row is a place of frames of records, two frames each but the first one.
func row(epoch, from uint32) []part {
	var parts []part
	for i, n := range []int{3, 60, 70, 80} {
		parts = append(parts, cut(epoch, from+uint32(len(parts)), someText(n, byte(i)))...)
	}
	return parts
}

// A frame that is spoilt ends it: what is told ahead of it is told, and nothing behind it.
func TestReadEndsAtASpoiltFrame(t *testing.T) {
	p := ring.Place{First: 1, Many: 9, Epoch: 7}
	for name, spoil := range map[string]func(f part) string{
		"zeros":                func(f part) string { return strings.Repeat("\x00", 64) },
		"junk":                 func(f part) string { return junk(5) },
		"an epoch below":       func(f part) string { f.epoch--; return f.sector() },
		"an epoch above":       func(f part) string { f.epoch++; return f.sector() },
		"an epoch of 0":        func(f part) string { f.epoch = 0; return f.sector() },
		"an epoch of 2^24 on":  func(f part) string { f.epoch += 1 << 24; return f.sector() },
		"the seq ahead":        func(f part) string { f.seq--; return f.sector() },
		"the seq behind":       func(f part) string { f.seq++; return f.sector() },
		"a seq of a turn ago":  func(f part) string { f.seq -= 9; return f.sector() },
		"a seq of a turn on":   func(f part) string { f.seq += 9; return f.sector() },
		"a seq of 2^16 on":     func(f part) string { f.seq += 1 << 16; return f.sector() },
		"a seq of 2^31 on":     func(f part) string { f.seq += 1 << 31; return f.sector() },
		"the other First":      func(f part) string { f.flag ^= 1; return f.sector() },
		"the other First, 255": func(f part) string { f.flag ^= 253; return f.sector() },
	} {
		for _, from := range []uint32{0, 4, 9, 100, 1 << 30, math.MaxUint32 - 20} {
			for i, f := range row(7, from) {
				d := junkDisk(t, 11)
				lay(t, d, p, row(7, from)...)
				put(t, d, p.First+int(f.seq)%9, spoil(f))
				var want []rec
				next := from
				for k, text := range []string{someText(3, 0), someText(60, 1), someText(70, 2), someText(80, 3)} {
					if end := 2*k + 1; i >= end {
						next = from + uint32(end)
						want = append(want, rec{next, text})
					}
				}
				wantRead(t, name, d, p, from, want, next)
			}
		}
	}
}

// Each byte of a frame's sector that is another one is a frame no more.
func TestReadEndsAtOneOtherByte(t *testing.T) {
	p := ring.Place{First: 1, Many: 9, Epoch: 7}
	d := junkDisk(t, 11)
	parts := row(7, 4)
	lay(t, d, p, parts...)
	d.Sync()
	for at := range 64 {
		for _, by := range []byte{1, 0x80, 0xff} {
			bent := []byte(parts[3].sector())
			bent[at] ^= by
			one := d.Copy()
			put(t, one, p.First+int(parts[3].seq)%9, string(bent))
			wantRead(t, "another byte", one, p, 4, []rec{{5, someText(3, 0)}, {7, someText(60, 1)}}, 7)
		}
	}
}

func TestReadFlagsAsWrittenOut(t *testing.T) {
	for _, w := range []struct {
		flags []byte
		want  []rec
	}{
		{[]byte{}, nil},
		{[]byte{0}, nil},
		{[]byte{1}, nil},
		{[]byte{2}, nil},
		{[]byte{3}, []rec{{6, "a"}}},
		{[]byte{1, 2}, []rec{{7, "ab"}}},
		{[]byte{1, 0, 2}, []rec{{8, "abc"}}},
		{[]byte{1, 0, 0}, nil},
		{[]byte{0, 3}, nil},
		{[]byte{2, 3}, nil},
		{[]byte{1, 3}, nil},
		{[]byte{1, 1, 2}, nil},
		{[]byte{1, 0, 1, 2}, nil},
		{[]byte{3, 0, 3}, []rec{{6, "a"}}},
		{[]byte{3, 2, 3}, []rec{{6, "a"}}},
		{[]byte{3, 1, 3}, []rec{{6, "a"}}},
		{[]byte{3, 1, 2, 3}, []rec{{6, "a"}, {8, "bc"}, {9, "d"}}},
		{[]byte{1, 2, 2, 3}, []rec{{7, "ab"}}},
		{[]byte{4}, nil},
		{[]byte{8, 3}, nil},
		{[]byte{7, 11, 255}, []rec{{6, "a"}, {7, "b"}, {8, "c"}}},
		{[]byte{5, 4, 6, 0xfd, 0xfe}, []rec{{8, "abc"}, {10, "de"}}},
		{[]byte{0x81, 0x40, 0xfc, 0x82}, []rec{{9, "abcd"}}},
		{[]byte{0xfe, 3}, nil},
		{[]byte{0xff, 0xfc, 3}, []rec{{6, "a"}}},
	} {
		d, p := junkDisk(t, 12), ring.Place{First: 1, Many: 10, Epoch: 9}
		for i, flag := range w.flags {
			lay(t, d, p, part{9, 5 + uint32(i), flag, string(rune('a' + i))})
		}
		next := uint32(5)
		if len(w.want) > 0 {
			next = w.want[len(w.want)-1].end
		}
		wantRead(t, "flags "+strconv.Quote(string(w.flags)), d, p, 5, w.want, next)
	}
}

// P7.1: all rows of four flags, with and without bits that Cut never sets, held against the chapter's words.
func TestReadOfEveryRowOfFlags(t *testing.T) {
	p := ring.Place{First: 1, Many: 4, Epoch: 9}
	flags := []byte{0, 1, 2, 3, 4, 7, 0xfc, 0xfe, 0xff}
	n := len(flags)
	for row := range n * n * n * n {
		d := vdisk.New(5)
		for i := range 4 {
			lay(t, d, p, part{9, 6 + uint32(i), flags[row%n], strings.Repeat(string(rune('a'+i)), i*16)})
			row /= n
		}
		recs, next := modelled(sectorsOf(t, d), p, 6)
		got, end := scan.Read(d, p, 6)
		if !slices.Equal(told(got), recs) || end != next {
			t.Errorf("%q: Read = %v, %d, want %v, %d", sectorsOf(t, d), told(got), end, recs, next)
		}
	}
}

// P7.1: each flag of 256, as the first one read, behind a Last, and behind none.
func TestReadOfEveryFlag(t *testing.T) {
	p := ring.Place{First: 0, Many: 3, Epoch: 9}
	for flag := range 256 {
		for _, ahead := range []byte{1, 3} {
			d := vdisk.New(3)
			lay(t, d, p, part{9, 3, ahead, "a"}, part{9, 4, byte(flag), "b"}, part{9, 5, 2, "c"})
			for from := range uint32(7) {
				wantModelled(t, "a flag", d, p, from)
			}
		}
	}
}

// A body has fewer than 50 bytes in the middle of a record, too: Cut never makes that.
func TestReadOfShortBodies(t *testing.T) {
	d, p := junkDisk(t, 8), ring.Place{First: 0, Many: 8, Epoch: 9}
	lay(t, d, p, part{9, 0, 1, "ab"}, part{9, 1, 0, ""}, part{9, 2, 0, someText(50, 3)}, part{9, 3, 2, "c"}, part{9, 4, 1, ""}, part{9, 5, 2, ""})
	wantRead(t, "short bodies", d, p, 0, []rec{{4, "ab" + someText(50, 3) + "c"}, {6, ""}}, 6)
}

// P7.1: behind the greatest number comes 0.
func TestReadGoesRound(t *testing.T) {
	const top = math.MaxUint32
	d, p := junkDisk(t, 10), ring.Place{First: 1, Many: 8, Epoch: 2}
	lay(t, d, p, part{2, top - 2, 3, "a"}, part{2, top - 1, 1, "b"}, part{2, top, 0, "c"}, part{2, 0, 2, "d"}, part{2, 1, 3, "e"})
	wantRead(t, "a record over the end", d, p, top-2, []rec{{top - 1, "a"}, {1, "bcd"}, {2, "e"}}, 2)
	wantRead(t, "a record over the end", d, p, top-1, []rec{{1, "bcd"}, {2, "e"}}, 2)
	wantRead(t, "in the middle", d, p, top, nil, top)
	wantRead(t, "in the middle", d, p, 0, nil, 0)
	lay(t, d, p, part{2, top, 2, "c"}, part{2, 0, 3, "d"})
	wantRead(t, "a record at the end", d, p, top-1, []rec{{0, "bc"}, {1, "d"}, {2, "e"}}, 2)
	lay(t, d, p, part{2, top, 3, "c"}, part{2, 0, 1, "d"})
	wantRead(t, "the last number's End", d, p, top, []rec{{0, "c"}}, 0)
}

// Many that aren't a part of 2^32: the sector behind the greatest number's one isn't the next one then.
func TestReadGoesRoundInOtherPlaces(t *testing.T) {
	for many := 1; many <= 40; many++ {
		p := ring.Place{First: 2, Many: many, Epoch: 2}
		for back := range uint32(20) {
			from := -back
			d := junkDisk(t, 44)
			for i := range uint32(many) {
				lay(t, d, p, part{2, from + i, 3, someText(int(i), 5)})
			}
			wantModelled(t, "round", d, p, from)
		}
	}
	d, p := junkDisk(t, 8), ring.Place{First: 0, Many: 7, Epoch: 2}
	put(t, d, 2, part{2, math.MaxUint32 - 1, 3, "a"}.sector())
	put(t, d, 3, part{2, math.MaxUint32, 3, "b"}.sector())
	put(t, d, 0, part{2, 0, 3, "c"}.sector())
	put(t, d, 1, part{2, 1, 3, "d"}.sector())
	wantRead(t, "seven sectors", d, p, math.MaxUint32-1, []rec{{math.MaxUint32, "a"}, {0, "b"}, {1, "c"}, {2, "d"}}, 2)
}

// P7.1 and P1: a place that is beyond the disk's sectors has what is on them.
func TestReadOfPlacesBeyondTheDisk(t *testing.T) {
	d := junkDisk(t, 6)
	for seq := range uint32(6) {
		put(t, d, int(seq), part{7, seq, 3, string(rune('a' + seq))}.sector())
	}
	all := []rec{{1, "a"}, {2, "b"}, {3, "c"}, {4, "d"}, {5, "e"}, {6, "f"}}
	for _, many := range []int{7, 8, 100, 1024, 1025, 1 << 31, 1<<32 - 1, 1 << 32, 1<<32 + 1, math.MaxInt64 - 1, math.MaxInt64} {
		p := ring.Place{First: 0, Many: many, Epoch: 7}
		for from := range uint32(7) {
			wantRead(t, "a part is beyond", d, p, from, all[from:], 6)
		}
		for _, from := range []uint32{math.MaxUint32, math.MaxUint32 - 1, 1 << 31} {
			wantModelled(t, "a part is beyond", d, p, from)
		}
	}
	for _, first := range []int{6, 7, 1023, 1024, 1 << 32, math.MaxInt64 - 5, math.MaxInt64 - 1, math.MaxInt64} {
		for _, many := range []int{1, 2, 6, 1024, 1 << 32, math.MaxInt64 - 1, math.MaxInt64} {
			for _, from := range froms {
				wantRead(t, "all is beyond", d, ring.Place{First: first, Many: many, Epoch: 7}, from, nil, from)
			}
		}
	}
	for _, first := range []int{1, 2, 5} {
		for _, many := range []int{math.MaxInt64 - 5, math.MaxInt64 - 1, math.MaxInt64, 9} {
			d := junkDisk(t, 6)
			put(t, d, first, part{7, 0, 3, "a"}.sector())
			wantRead(t, "a sum past the greatest int", d, ring.Place{First: first, Many: many, Epoch: 7}, 0, []rec{{1, "a"}}, 1)
		}
	}
}

// A record that goes on beyond the disk isn't told.
func TestReadOfARecordBeyondTheDisk(t *testing.T) {
	d := junkDisk(t, 4)
	p := ring.Place{First: 1, Many: 5, Epoch: 7}
	lay(t, d, p, part{7, 0, 3, "a"}, part{7, 1, 1, "b"}, part{7, 2, 0, "c"})
	wantRead(t, "beyond", d, p, 0, []rec{{1, "a"}}, 1)
}

// Only the place is read: sectors beside it may be frames that fit.
func TestReadOfThePlaceAlone(t *testing.T) {
	d := junkDisk(t, 8)
	for at := range 8 {
		put(t, d, at, part{7, uint32(at), 3, string(rune('a' + at))}.sector())
	}
	wantRead(t, "a place in the middle", d, ring.Place{First: 4, Many: 2, Epoch: 7}, 4, []rec{{5, "e"}, {6, "f"}}, 6)
	wantRead(t, "a place in the middle", d, ring.Place{First: 4, Many: 2, Epoch: 7}, 5, []rec{{6, "f"}}, 6)
	wantRead(t, "a place in the middle", d, ring.Place{First: 4, Many: 4, Epoch: 7}, 6, []rec{{7, "g"}, {8, "h"}}, 8)
}

// R3: what is told is the caller's own.
func TestReadSharesNothing(t *testing.T) {
	d, p := junkDisk(t, 12), ring.Place{First: 1, Many: 10, Epoch: 7}
	var want []rec
	next := uint32(3)
	for i, n := range []int{10, 60, 0, 110, 50, 1} {
		parts := cut(7, next, someText(n, byte(i)))
		lay(t, d, p, parts...)
		next += uint32(len(parts))
		want = append(want, rec{next, someText(n, byte(i))})
	}
	first, _ := scan.Read(d, p, 3)
	second, _ := scan.Read(d, p, 3)
	for i := range first {
		// What is behind a body may have room; writing there may not reach another one.
		whole := first[i].Body[:cap(first[i].Body)]
		for k := range whole {
			whole[k] = 0xcc
		}
		if rest := told(first[i+1:]); !slices.Equal(rest, want[i+1:]) {
			t.Errorf("a change of body %d reaches others: %v", i, rest)
		}
		first[i].Body = append(first[i].Body, someText(200, 3)...)
	}
	first = append(first[:0], make([]scan.Rec, cap(first))...)
	if !slices.Equal(told(second), want) {
		t.Errorf("a change of what was told reaches another Read's: %v", told(second))
	}
	wantRead(t, "behind changes", d, p, 3, want, next)
	for at := range d.Len() {
		put(t, d, at, junk(at))
	}
	d.Sync()
	if !slices.Equal(told(second), want) {
		t.Errorf("a change of the disk reaches what was told: %v", told(second))
	}
	wantRead(t, "overwritten", d, p, 3, nil, 3)
}

// R4: Reads of several disks, places and numbers, mixed, tell what each would tell alone.
func TestReadKeepsNothing(t *testing.T) {
	p := ring.Place{First: 1, Many: 6, Epoch: 7}
	one, two := junkDisk(t, 8), junkDisk(t, 8)
	lay(t, one, p, cut(7, 0, someText(60, 1))...)
	lay(t, two, p, cut(7, 0, someText(120, 2))...)
	for range 3 {
		wantRead(t, "one", one, p, 0, []rec{{2, someText(60, 1)}}, 2)
		wantRead(t, "one, in the middle", one, p, 1, nil, 1)
		wantRead(t, "two", two, p, 0, []rec{{3, someText(120, 2)}}, 3)
		wantRead(t, "none", nil, p, 5, nil, 5)
	}
}

// P7.2: what was appended.

// log is a ring and what should be found of it: the records from Low on, and which of them are synced.
type log struct {
	d      *vdisk.Disk
	p      ring.Place
	r      *ring.Ring
	recs   []rec
	synced uint32
}

func newLog(t *testing.T, d *vdisk.Disk, p ring.Place, at uint32) *log {
	t.Helper()
	r := ring.New(d, p, at, at)
	if r == nil {
		t.Fatalf("ring.New(%d sectors, %v, %d) = nil", d.Len(), p, at)
	}
	return &log{d: d, p: p, r: r, synced: at}
}

func (l *log) append(t *testing.T, text string) {
	t.Helper()
	n, e := l.r.Append([]byte(text))
	if e == api.OK {
		l.recs = append(l.recs, rec{n, text})
	} else if e != api.ErrFull && e != api.ErrOver {
		t.Fatalf("Append of %d bytes = %d", len(text), e)
	}
}

// truncate lets the first few records be free.
func (l *log) truncate(many int) {
	if many = min(many, len(l.recs)); many > 0 {
		l.r.Truncate(l.recs[many-1].end)
		l.recs = l.recs[many:]
	}
}

func (l *log) sync() {
	l.d.Sync()
	l.synced = l.r.Next()
}

func (l *log) wantAll(t *testing.T, what string) {
	t.Helper()
	wantRead(t, what, l.d, l.p, l.r.Low(), l.recs, l.r.Next())
}

// wantBegin asks, behind a crash of a copy of the disk, for a begin of the records with all that were synced, and tells how many there were.
func (l *log) wantBegin(t *testing.T, keep []bool) int {
	t.Helper()
	d := l.d.Copy()
	d.Crash(keep)
	recs, next := scan.Read(d, l.p, l.r.Low())
	got := told(recs)
	if len(got) > len(l.recs) || !slices.Equal(got, l.recs[:len(got)]) {
		t.Fatalf("crashed, keeping %v: Read = %v, which is no begin of %v", keep, got, l.recs)
	}
	want := l.r.Low()
	if len(got) > 0 {
		want = got[len(got)-1].end
	}
	if next != want {
		t.Fatalf("crashed, keeping %v: Read tells %d, want %d", keep, next, want)
	}
	if len(got) < len(l.recs) && l.recs[len(got)].end <= l.synced {
		t.Fatalf("crashed, keeping %v: Read = %v, but all to %d is synced of %v", keep, got, l.synced, l.recs)
	}
	return len(got)
}

func TestReadOfARing(t *testing.T) {
	d := junkDisk(t, 8)
	l := newLog(t, d, ring.Place{First: 1, Many: 6, Epoch: 5}, 0)
	l.wantAll(t, "nothing yet")
	for i, n := range []int{0, 60, 10, 50, 200, 51, 1, 120, 0, 250, 300, 3} {
		for l.r.Free() < (n+49)/50 || l.r.Free() < 1 {
			l.truncate(1)
			l.wantAll(t, "truncated")
		}
		l.append(t, someText(n, byte(i)))
		l.wantAll(t, "appended")
		if i%3 == 0 {
			l.sync()
			l.wantAll(t, "synced")
		}
	}
	l.truncate(100)
	l.wantAll(t, "all let go")
}

// The chapter's example.
func TestReadOfALostFrame(t *testing.T) {
	d, p := junkDisk(t, 8), ring.Place{First: 1, Many: 6, Epoch: 5}
	l := newLog(t, d, p, 0)
	l.append(t, "one")
	l.append(t, someText(60, 1))
	l.append(t, "three")
	all := l.recs
	d.Crash([]bool{true, true, false, true})
	wantRead(t, "a second frame is lost", d, p, 0, all[:1], 1)
	wantRead(t, "from the lost one's record on", d, p, 1, nil, 1)
	wantRead(t, "from behind it", d, p, 3, all[2:], 4)
	wantRead(t, "another epoch", d, ring.Place{First: 1, Many: 6, Epoch: 6}, 0, nil, 0)
}

// P7.2: all crashes of a row, behind what was synced: the records that are found are those ahead of the first lost write.
func TestReadBehindEveryCrash(t *testing.T) {
	for _, lengths := range [][]int{{1, 1, 1, 1, 1, 1, 1, 1}, {60, 60, 60, 60}, {120, 10, 160}, {400}, {1, 350}, {350, 1}} {
		for _, start := range []uint32{0, 5, 11, 1 << 20} {
			l := newLog(t, junkDisk(t, 14), ring.Place{First: 1, Many: 12, Epoch: 5}, start)
			l.append(t, someText(70, 9))
			l.append(t, "synced")
			l.sync()
			for i, n := range lengths {
				l.append(t, someText(n, byte(i)))
			}
			pending := l.d.Pending()
			for kept := range 1 << pending {
				keep := make([]bool, pending)
				whole := uint32(pending)
				for i := range keep {
					keep[i] = kept>>i&1 == 1
					if !keep[i] {
						whole = min(whole, uint32(i))
					}
				}
				want := 0
				for want < len(l.recs) && l.recs[want].end <= l.synced+whole {
					want++
				}
				if n := l.wantBegin(t, keep); n != want {
					t.Fatalf("crashed, keeping %v: %d records, want %d", keep, n, want)
				}
			}
		}
	}
}

// P7.2: all crashes of a row that goes round, so that sectors are written again, and once more, ahead of a sync.
func TestReadBehindEveryCrashOfARowThatGoesRound(t *testing.T) {
	for many := 1; many <= 4; many++ {
		for size := 1; size <= many; size++ {
			l := newLog(t, junkDisk(t, many+2), ring.Place{First: 1, Many: many, Epoch: 5}, 0)
			for i := 0; l.d.Pending() < 9; i++ {
				if i == 3 {
					l.sync()
				}
				if l.r.Free() < size {
					l.truncate(1)
				}
				l.append(t, someText(50*size-i%3, byte(i)))
				l.wantAll(t, "round")
				for kept := range 1 << l.d.Pending() {
					keep := make([]bool, l.d.Pending())
					for k := range keep {
						keep[k] = kept>>k&1 == 1
					}
					l.wantBegin(t, keep)
				}
			}
		}
	}
}

// Frames of an epoch ahead don't count, though their numbers fit.
func TestReadOfAnEpochAhead(t *testing.T) {
	d := junkDisk(t, 6)
	for epoch := range uint32(5) {
		l := newLog(t, d, ring.Place{First: 0, Many: 6, Epoch: epoch}, 3)
		l.wantAll(t, "nothing yet")
		for i := range 6 - int(epoch) {
			l.append(t, someText(i, byte(epoch)))
			l.wantAll(t, "an epoch ahead stands behind")
		}
		d.Sync()
	}
}

// P7.2: whatever is done.
func TestWhateverIsDone(t *testing.T) {
	random := rand.New(rand.NewSource(1))
	for range 200 {
		many := 1 + random.Intn(12)
		first := random.Intn(4)
		d := junkDisk(t, first+many+random.Intn(3))
		p := ring.Place{First: first, Many: many, Epoch: random.Uint32()}
		start := []uint32{0, uint32(random.Intn(1000)), 1<<30 - uint32(random.Intn(60))}[random.Intn(3)]
		l := newLog(t, d, p, start)
		for range 60 {
			switch random.Intn(6) {
			case 0:
				l.truncate(random.Intn(4))
			case 1:
				l.sync()
			default:
				l.append(t, someText([]int{0, 1, 49, 50, 51, 100, random.Intn(400)}[random.Intn(7)], byte(random.Intn(256))))
			}
			l.wantAll(t, "a step")
			for range 5 {
				keep := make([]bool, random.Intn(d.Pending()+3))
				for i := range keep {
					keep[i] = random.Intn(8) > 0
				}
				l.wantBegin(t, keep)
			}
			l.wantBegin(t, nil)
		}
	}
}

// P7.1: whatever is on a disk, held against the chapter's words.
func TestReadOfWhateverThereIs(t *testing.T) {
	random := rand.New(rand.NewSource(2))
	for range 3000 {
		secs := 1 + random.Intn(12)
		d := junkDisk(t, secs)
		p := ring.Place{First: random.Intn(3), Many: 1 + random.Intn(secs+2), Epoch: uint32(random.Intn(2))}
		from := []uint32{0, uint32(random.Intn(100)), -uint32(random.Intn(12))}[random.Intn(3)]
		ahead := byte(2)
		for i := range p.Many {
			f := part{p.Epoch, from + uint32(i), byte(random.Intn(2)*2) | ahead>>1&1, someText(random.Intn(51), byte(i))}
			ahead = f.flag
			switch random.Intn(40) {
			case 0:
				f.epoch ^= 1
			case 1:
				f.seq += uint32(random.Intn(20)) - 10
			case 2:
				f.flag ^= byte(random.Intn(256))
			}
			if at := p.First + int(f.seq)%p.Many; at < secs && random.Intn(40) > 0 {
				put(t, d, at, f.sector())
			}
		}
		for i := range uint32(4) {
			wantModelled(t, "whatever", d, p, from+i)
		}
	}
}

// P1: whatever is asked of whatever disk.
func FuzzRead(f *testing.F) {
	f.Add(6, 1, 4, uint32(7), uint32(0), []byte("\x03\x00\x01\x32\x02\x01\x03\x00"))
	f.Add(3, 0, 3, uint32(0), uint32(math.MaxUint32), []byte("\x03\x05\x03\x06\x03\x07"))
	f.Add(3, math.MaxInt64, math.MaxInt64, uint32(0), uint32(5), []byte{})
	f.Add(9, 2, math.MaxInt64, uint32(0), uint32(0), []byte("\x01\x05\x00\x06\x02\x07"))
	f.Fuzz(func(t *testing.T, secs, first, many int, epoch, from uint32, b []byte) {
		p := ring.Place{First: first, Many: many, Epoch: epoch}
		wantRead(t, "no disk", nil, p, from, nil, from)
		if secs < 1 || secs > 1024 {
			return
		}
		d := vdisk.New(secs)
		for i := 0; i+1 < len(b) && i < 400; i += 2 {
			seq := from + uint32(i/2)
			if at := ring.At(p, seq); at >= 0 && at < secs {
				put(t, d, at, part{epoch, seq, b[i], someText(int(b[i+1])%51, b[i+1])}.sector())
			}
		}
		wantModelled(t, "fuzzed", d, p, from)
		wantModelled(t, "fuzzed", d, p, from+1)
	})
}

func parsed(t *testing.T) *ast.File {
	t.Helper()
	file, err := parser.ParseFile(token.NewFileSet(), "scan.go", nil, 0)
	if err != nil {
		t.Fatal(err)
	}
	return file
}

// Ways: Read goes through frames by a labelled loop, which is left by its label.
func TestFramesAreGoneThroughByALabelledLoop(t *testing.T) {
	loops := map[string]bool{}
	left := false
	ast.Inspect(parsed(t), func(n ast.Node) bool {
		switch n := n.(type) {
		case *ast.LabeledStmt:
			switch n.Stmt.(type) {
			case *ast.ForStmt, *ast.RangeStmt:
				loops[n.Label.Name] = true
			}
		case *ast.BranchStmt:
			left = left || n.Label != nil && n.Tok == token.BREAK && loops[n.Label.Name]
		}
		return true
	})
	if !left {
		t.Error("scan has no labelled loop that is left by its label")
	}
}

// R4 and R6: the package keeps nothing from call to call, and calls no layer but vdisk, frame and ring.
func TestScanCallsVdiskFrameAndRingAlone(t *testing.T) {
	file := parsed(t)
	may := []string{"ogive/api", "ogive/vdisk", "ogive/frame", "ogive/ring"}
	for _, i := range file.Imports {
		p := strings.Trim(i.Path.Value, `"`)
		if strings.HasPrefix(p, "ogive/") && !slices.Contains(may, p) {
			t.Errorf("scan imports %s", p)
		}
	}
	for _, d := range file.Decls {
		if g, ok := d.(*ast.GenDecl); ok && g.Tok == token.VAR {
			t.Error("scan has a variable at package level")
		}
	}
}

// R2: a record without bytes is told, whether its body is nil or empty.
func TestReadOfARecordWithoutBytes(t *testing.T) {
	d, p := junkDisk(t, 4), ring.Place{First: 1, Many: 2, Epoch: 5}
	l := newLog(t, d, p, 7)
	for _, r := range [][]byte{nil, {}} {
		if _, e := l.r.Append(r); e != api.OK {
			t.Fatalf("Append = %d", e)
		}
	}
	recs, n := scan.Read(d, p, 7)
	if len(recs) != 2 || n != 9 || recs[0].End != 8 || recs[1].End != 9 || !bytes.Equal(recs[0].Body, nil) || !bytes.Equal(recs[1].Body, nil) {
		t.Errorf("Read = %v, %d", told(recs), n)
	}
}
