package frame_test

import (
	"bytes"
	"encoding/binary"
	"go/ast"
	"go/parser"
	"go/token"
	"hash/crc32"
	"math"
	"math/rand"
	"slices"
	"strings"
	"testing"

	"ogive/api"
	"ogive/frame"
)

// The constants have no type of their own, so that each stands beside numbers of any kind.
var (
	_ byte   = frame.First | frame.Last
	_ uint32 = frame.First | frame.Last
	_ int    = frame.Room
	_ uint16 = frame.Room
)

// numbers are edges of Epoch and Seq.
var numbers = []uint32{0, 1, 2, 255, 256, 1<<16 - 1, 1 << 16, 0x01020304, 1<<30 - 1, 1 << 30, math.MaxInt32, 1 << 31, math.MaxUint32 - 1, math.MaxUint32}

// flags are those that Cut makes, and others.
var flags = []byte{0, frame.First, frame.Last, frame.First | frame.Last, 4, 127, 128, 254, 255}

// fits are how many bytes a Body may have, at the edges; tooLong are how many it may not, also such as are few in one byte.
var (
	fits    = []int{0, 1, 2, 9, 10, 25, 48, 49, 50}
	tooLong = []int{51, 52, 54, 60, 64, 100, 255, 256, 257, 306, 307, 512, 65536, 65586, 100000}
)

// someBody is n bytes, none of which is like its neighbours, beginning with a byte that hangs on from.
func someBody(n int, from byte) []byte {
	b := make([]byte, n)
	for i := range b {
		b[i] = from + byte(i)*7
	}
	return b
}

// sumOf is the sum that a sector has behind its first 60 bytes.
func sumOf(b []byte) []byte {
	return binary.BigEndian.AppendUint32(nil, crc32.Checksum(b, crc32.MakeTable(crc32.Castagnoli)))
}

// sectorOf is a frame's sector in the chapter's words; its Body has room.
func sectorOf(f frame.Frame) []byte {
	b := binary.BigEndian.AppendUint32(nil, f.Epoch)
	b = binary.BigEndian.AppendUint32(b, f.Seq)
	b = append(b, f.Flag, byte(len(f.Body)))
	b = append(b, f.Body...)
	for len(b) < 60 {
		b = append(b, 0)
	}
	return append(b, sumOf(b)...)
}

// isSector is whether b is some frame's, asked part by part.
func isSector(b []byte) bool {
	if len(b) != 64 || !bytes.Equal(b[60:], sumOf(b[:60])) || b[9] > 50 {
		return false
	}
	return strings.Trim(string(b[10+int(b[9]):60]), "\x00") == ""
}

func same(f, g frame.Frame) bool {
	return f.Epoch == g.Epoch && f.Seq == g.Seq && f.Flag == g.Flag && bytes.Equal(f.Body, g.Body)
}

func wantPack(t *testing.T, f frame.Frame, want []byte) {
	t.Helper()
	if b, e := frame.Pack(f); e != api.OK || !bytes.Equal(b, want) {
		t.Errorf("Pack(%v) = % x, %d, want % x", f, b, e, want)
	}
}

func wantParse(t *testing.T, b []byte, want frame.Frame) {
	t.Helper()
	if f, e := frame.Parse(b); e != api.OK || !same(f, want) {
		t.Errorf("Parse(% x) = %v, %d, want %v", b, f, e, want)
	}
}

func wantNoFrame(t *testing.T, what string, b []byte) {
	t.Helper()
	if f, e := frame.Parse(b); e != api.ErrForm || !same(f, frame.Frame{}) {
		t.Errorf("%s: Parse(% x) = %v, %d, want ErrForm and nothing else", what, b, f, e)
	}
}

// written are frames and their sectors, written out but for the zeros between Body and sum.
func written() []struct {
	f         frame.Frame
	head, sum string
} {
	counted := "\x01\x02\x03\x04\x05\x06\x07\x08\x09\x0a\x0b\x0c\x0d\x0e\x0f\x10\x11\x12\x13\x14\x15\x16\x17\x18\x19\x1a\x1b\x1c\x1d\x1e\x1f !\"#$%&'()*+,-./01"
	highest := strings.Repeat("\xff", 50)
	return []struct {
		f         frame.Frame
		head, sum string
	}{
		{frame.Frame{Epoch: 1, Seq: 2, Flag: 3, Body: []byte("ab")}, "\x00\x00\x00\x01\x00\x00\x00\x02\x03\x02ab", "\x28\x22\x0b\xd1"},
		{frame.Frame{}, "\x00\x00\x00\x00\x00\x00\x00\x00\x00\x00", "\x5a\x0b\x05\x31"},
		{frame.Frame{Body: []byte{}}, "\x00\x00\x00\x00\x00\x00\x00\x00\x00\x00", "\x5a\x0b\x05\x31"},
		{frame.Frame{Epoch: 7, Seq: 1 << 31, Flag: 1, Body: []byte{0}}, "\x00\x00\x00\x07\x80\x00\x00\x00\x01\x01\x00", "\xc0\x06\x0e\x37"},
		{frame.Frame{Epoch: 0x01020304, Seq: 0x05060708, Flag: 9, Body: []byte(counted)}, "\x01\x02\x03\x04\x05\x06\x07\x08\x09\x31" + counted, "\xae\x71\x34\x37"},
		{frame.Frame{Epoch: math.MaxUint32, Seq: math.MaxUint32, Flag: 255, Body: []byte(highest)}, "\xff\xff\xff\xff\xff\xff\xff\xff\xff\x32" + highest, "\x10\x10\xa6\x85"},
	}
}

// P5.1: Pack.

func TestPackAsWrittenOut(t *testing.T) {
	for _, w := range written() {
		wantPack(t, w.f, []byte(w.head+strings.Repeat("\x00", 60-len(w.head))+w.sum))
	}
}

func TestPackOfEveryLength(t *testing.T) {
	for n := range 51 {
		f := frame.Frame{Epoch: 0x0a0b0c0d, Seq: 0x1a1b1c1d, Flag: frame.Last, Body: someBody(n, 200)}
		wantPack(t, f, sectorOf(f))
		f.Body = make([]byte, n)
		wantPack(t, f, sectorOf(f))
	}
}

func TestPackOfEdges(t *testing.T) {
	for _, epoch := range numbers {
		for _, seq := range numbers {
			for _, flag := range flags {
				for _, n := range fits {
					f := frame.Frame{Epoch: epoch, Seq: seq, Flag: flag, Body: someBody(n, 3)}
					wantPack(t, f, sectorOf(f))
				}
			}
		}
	}
}

func TestPackOfEveryFlag(t *testing.T) {
	for flag := range 256 {
		f := frame.Frame{Epoch: 1, Flag: byte(flag), Body: []byte("a")}
		wantPack(t, f, sectorOf(f))
	}
}

// R2: no Body is one without bytes.
func TestPackOfNil(t *testing.T) {
	for _, f := range []frame.Frame{{}, {Epoch: 5, Seq: 6, Flag: 7}} {
		want := sectorOf(f)
		wantPack(t, f, want)
		f.Body = []byte{}
		wantPack(t, f, want)
	}
}

// P5.1 and R1: with ErrFull nothing is told.
func TestPackOfTooMuch(t *testing.T) {
	for _, n := range tooLong {
		for _, b := range [][]byte{make([]byte, n), someBody(n, 1)} {
			for _, f := range []frame.Frame{{Body: b}, {Epoch: math.MaxUint32, Seq: math.MaxUint32, Flag: 255, Body: b}} {
				if b, e := frame.Pack(f); e != api.ErrFull || len(b) != 0 {
					t.Errorf("Pack of %d bytes = % x, %d, want ErrFull", n, b, e)
				}
			}
		}
	}
}

// R3: what is packed is the caller's own, and Body stays, with what is behind it.
func TestPackSharesNothing(t *testing.T) {
	for _, n := range []int{0, 1, 49, 50} {
		whole := someBody(100, 9)
		was := bytes.Clone(whole)
		f := frame.Frame{Epoch: 1, Seq: 2, Flag: 3, Body: whole[:n]}
		b, _ := frame.Pack(f)
		want := sectorOf(f)
		for i := range b {
			b[i] = 0xee
		}
		_ = append(b[:0], bytes.Repeat([]byte{0xdd}, 60)...)
		if !bytes.Equal(whole, was) {
			t.Errorf("%d bytes: Pack, or a change of what it told, changed what was handed in: % x", n, whole)
		}
		wantPack(t, f, want)
		b, _ = frame.Pack(f)
		for i := range whole {
			whole[i] = 0xcc
		}
		if !bytes.Equal(b, want) {
			t.Errorf("%d bytes: a change of what was handed in changed the sector: % x", n, b)
		}
	}
}

// P5.1: Parse.

func TestParseAsWrittenOut(t *testing.T) {
	for _, w := range written() {
		wantParse(t, []byte(w.head+strings.Repeat("\x00", 60-len(w.head))+w.sum), w.f)
	}
}

func TestParseOfEdges(t *testing.T) {
	for _, epoch := range numbers {
		for _, seq := range numbers {
			for _, flag := range flags {
				for _, n := range fits {
					f := frame.Frame{Epoch: epoch, Seq: seq, Flag: flag, Body: someBody(n, 3)}
					wantParse(t, sectorOf(f), f)
				}
			}
		}
	}
}

func TestParseOfEveryFlag(t *testing.T) {
	for flag := range 256 {
		f := frame.Frame{Seq: 1, Flag: byte(flag), Body: []byte("a")}
		wantParse(t, sectorOf(f), f)
	}
}

// P5.1: zeros that Body ends with are its own.
func TestParseOfZerosInBody(t *testing.T) {
	for n := range 51 {
		f := frame.Frame{Epoch: 1, Body: make([]byte, n)}
		wantParse(t, sectorOf(f), f)
		if n > 0 {
			f.Body[0] = 1
			wantParse(t, sectorOf(f), f)
		}
	}
}

func TestParseOfOtherLengths(t *testing.T) {
	wantNoFrame(t, "nil", nil)
	for _, n := range fits {
		s := sectorOf(frame.Frame{Epoch: 1, Seq: 2, Flag: 3, Body: someBody(n, 5)})
		for short := range 64 {
			wantNoFrame(t, "the begin of a sector", s[:short])
			wantNoFrame(t, "the end of a sector", s[64-short:])
		}
		for _, more := range []string{"\x00", "a", "\x00\x00\x00\x00", strings.Repeat("\x00", 64), strings.Repeat("\xff", 1000)} {
			wantNoFrame(t, "more behind a sector", append(bytes.Clone(s), more...))
			wantNoFrame(t, "more ahead of a sector", append([]byte(more), s...))
		}
		wantNoFrame(t, "two sectors", append(bytes.Clone(s), s...))
	}
}

// P5.1: bytes with the sum of all that are ahead of it, but not 64 of them.
func TestParseOfOtherLengthsWithTheirSum(t *testing.T) {
	for n := range 200 {
		if n != 60 {
			b := make([]byte, n)
			wantNoFrame(t, "zeros and their sum", append(b, sumOf(b)...))
		}
	}
}

// P5.1: the sum is right, and the number of bytes is too great.
func TestParseOfTooManyBytes(t *testing.T) {
	for many := 51; many < 256; many++ {
		for _, rest := range [][]byte{make([]byte, 50), someBody(50, 1)} {
			b := append([]byte{0, 0, 0, 1, 0, 0, 0, 2, 3, byte(many)}, rest...)
			wantNoFrame(t, "too many bytes", append(b, sumOf(b)...))
		}
	}
}

// P5.1: the sum is right, and a byte behind Body isn't zero.
func TestParseOfOtherThanZeros(t *testing.T) {
	for n := range 50 {
		for at := 10 + n; at < 60; at++ {
			for _, x := range []byte{1, 7, 128, 255} {
				b := sectorOf(frame.Frame{Epoch: 1, Seq: 2, Flag: 3, Body: someBody(n, 5)})[:60]
				b[at] = x
				wantNoFrame(t, "another byte than zero", append(b, sumOf(b)...))
			}
		}
	}
}

func TestParseOfOtherSums(t *testing.T) {
	for _, n := range fits {
		s := sectorOf(frame.Frame{Epoch: 1, Seq: 2, Flag: 3, Body: someBody(n, 5)})
		head, sum := s[:60:60], s[60:]
		turned := slices.Clone(sum)
		slices.Reverse(turned)
		other := binary.BigEndian.AppendUint32(nil, crc32.ChecksumIEEE(head))
		for _, b := range [][]byte{{0, 0, 0, 0}, {255, 255, 255, 255}, {^sum[0], ^sum[1], ^sum[2], ^sum[3]}, turned, other, sumOf(head[:10+n]), sumOf(s)} {
			if !bytes.Equal(b, sum) {
				wantNoFrame(t, "another sum", append(head, b...))
			}
		}
	}
}

// R3: what is told is the caller's own, and the sector stays.
func TestParseSharesNothing(t *testing.T) {
	for _, n := range fits {
		want := frame.Frame{Epoch: 1, Seq: 2, Flag: 3, Body: someBody(n, 5)}
		s := append(sectorOf(want), "behind"...)
		was := bytes.Clone(s)
		f, _ := frame.Parse(s[:64])
		for i := range f.Body {
			f.Body[i] = 0xee
		}
		_ = append(f.Body, bytes.Repeat([]byte{0xdd}, 80)...)
		_ = append(f.Body[:0], 0xdd)
		if !bytes.Equal(s, was) {
			t.Errorf("Parse, or a change of what it told, changed the sector: % x", s)
		}
		one, _ := frame.Parse(s[:64])
		other, _ := frame.Parse(s[:64])
		for i := range s {
			s[i] = 0xcc
		}
		for i := range other.Body {
			other.Body[i] = 0xee
		}
		if !same(one, want) {
			t.Errorf("a change of the sector, or of a frame told of it, changed the frame: %v", one)
		}
	}
}

// P5.2: Cut.

func TestCutAsWrittenOut(t *testing.T) {
	a, b, c := strings.Repeat("a", 50), strings.Repeat("b", 50), strings.Repeat("c", 50)
	for _, w := range []struct {
		epoch, seq uint32
		rec        string
		seqs       []uint32
		flags      []byte
		bodies     []string
	}{
		{0, 0, "", []uint32{0}, []byte{3}, []string{""}},
		{1, 5, "", []uint32{5}, []byte{3}, []string{""}},
		{1, 5, "\x00", []uint32{5}, []byte{3}, []string{"\x00"}},
		{1, 5, a[:49], []uint32{5}, []byte{3}, []string{a[:49]}},
		{1, 5, a, []uint32{5}, []byte{3}, []string{a}},
		{1, 5, a + "b", []uint32{5, 6}, []byte{1, 2}, []string{a, "b"}},
		{1, 5, a + b[:49], []uint32{5, 6}, []byte{1, 2}, []string{a, b[:49]}},
		{1, 5, a + b, []uint32{5, 6}, []byte{1, 2}, []string{a, b}},
		{1, 5, a + b + "c", []uint32{5, 6, 7}, []byte{1, 0, 2}, []string{a, b, "c"}},
		{1, 5, a + b + c, []uint32{5, 6, 7}, []byte{1, 0, 2}, []string{a, b, c}},
		{1, 5, a + b + c + "\x00", []uint32{5, 6, 7, 8}, []byte{1, 0, 0, 2}, []string{a, b, c, "\x00"}},
		{math.MaxUint32, math.MaxUint32, a, []uint32{math.MaxUint32}, []byte{3}, []string{a}},
		{math.MaxUint32, math.MaxUint32, a + "b", []uint32{math.MaxUint32, 0}, []byte{1, 2}, []string{a, "b"}},
		{9, math.MaxUint32 - 1, a + b + c + a, []uint32{math.MaxUint32 - 1, math.MaxUint32, 0, 1}, []byte{1, 0, 0, 2}, []string{a, b, c, a}},
		{0, math.MaxInt32, a + b + "", []uint32{math.MaxInt32, 1 << 31}, []byte{1, 2}, []string{a, b}},
	} {
		got := frame.Cut(w.epoch, w.seq, []byte(w.rec))
		if len(got) != len(w.bodies) {
			t.Errorf("Cut(%d, %d, %d bytes) has %d frames, want %d", w.epoch, w.seq, len(w.rec), len(got), len(w.bodies))
			continue
		}
		for i, f := range got {
			if want := (frame.Frame{Epoch: w.epoch, Seq: w.seqs[i], Flag: w.flags[i], Body: []byte(w.bodies[i])}); !same(f, want) {
				t.Errorf("Cut(%d, %d, %d bytes)[%d] = %v, want %v", w.epoch, w.seq, len(w.rec), i, f, want)
			}
		}
	}
}

// R2: no record is one without bytes.
func TestCutOfNil(t *testing.T) {
	for _, rec := range [][]byte{nil, {}, make([]byte, 0, 100)} {
		got := frame.Cut(1, 5, rec)
		if len(got) != 1 || !same(got[0], frame.Frame{Epoch: 1, Seq: 5, Flag: frame.First | frame.Last}) {
			t.Errorf("Cut of nothing = %v", got)
		}
	}
}

// wantCut asks of each frame what the chapter's words say of the one at its place.
func wantCut(t *testing.T, epoch, seq uint32, rec []byte) {
	t.Helper()
	got := frame.Cut(epoch, seq, rec)
	if want := max(1, (len(rec)+49)/50); len(got) != want {
		t.Fatalf("Cut of %d bytes has %d frames, want %d", len(rec), len(got), want)
	}
	for i, f := range got {
		want := frame.Frame{Epoch: epoch, Seq: uint32((uint64(seq) + uint64(i)) % (1 << 32)), Body: rec[50*i : min(len(rec), 50*i+50)]}
		if i == 0 {
			want.Flag += 1
		}
		if i == len(got)-1 {
			want.Flag += 2
		}
		if !same(f, want) {
			t.Fatalf("Cut(%d, %d, %d bytes)[%d] = %v, want %v", epoch, seq, len(rec), i, f, want)
		}
	}
}

func TestCutOfEveryLength(t *testing.T) {
	for n := range 512 {
		wantCut(t, 3, 4, someBody(n, byte(n)))
	}
	for _, n := range []int{12750, 12800, 12801, 65536, 65550, 1 << 20, 50 * 70000} {
		wantCut(t, 3, math.MaxUint32-100, someBody(n, 1))
	}
}

func TestCutOfEdges(t *testing.T) {
	for _, epoch := range numbers {
		for _, seq := range numbers {
			for _, n := range []int{0, 1, 49, 50, 51, 99, 100, 101, 150, 151} {
				wantCut(t, epoch, seq, someBody(n, 2))
			}
		}
	}
}

// R3: the bodies share nothing with the record, nor with each other.
func TestCutSharesNothing(t *testing.T) {
	for _, n := range []int{0, 1, 49, 50, 51, 100, 101, 170} {
		whole := someBody(n+60, 5)
		was := bytes.Clone(whole)
		for at := range frame.Cut(1, 2, whole[:n]) {
			got := frame.Cut(1, 2, whole[:n])
			for i := range got[at].Body {
				got[at].Body[i] = 0xee
			}
			_ = append(got[at].Body, bytes.Repeat([]byte{0xdd}, 60)...)
			if !bytes.Equal(whole, was) {
				t.Fatalf("Cut of %d bytes, or a change of what it told, changed what was handed in", n)
			}
			for i, f := range got {
				if i != at && !bytes.Equal(f.Body, was[50*i:min(n, 50*i+50)]) {
					t.Errorf("Cut of %d bytes: a change of body %d changed body %d", n, at, i)
				}
			}
		}
		got := frame.Cut(1, 2, whole[:n])
		for i := range whole {
			whole[i] = 0xcc
		}
		if !bytes.Equal(joined(got), was[:n]) {
			t.Errorf("Cut of %d bytes: a change of the record changed the bodies", n)
		}
	}
}

// P5.3: there and back.

func TestThereAndBack(t *testing.T) {
	for _, epoch := range numbers {
		for _, seq := range numbers {
			for n := range 51 {
				f := frame.Frame{Epoch: epoch, Seq: seq, Flag: byte(epoch) ^ byte(n), Body: someBody(n, byte(seq))}
				b, e := frame.Pack(f)
				if e != api.OK {
					t.Fatalf("Pack(%v) = %d", f, e)
				}
				wantParse(t, b, f)
			}
		}
	}
}

// P5.3: another byte, at each of the 64 places, each other byte that may be there.
func TestAnotherByte(t *testing.T) {
	sectors := [][]byte{}
	for _, w := range written() {
		b, _ := frame.Pack(w.f)
		sectors = append(sectors, b)
	}
	for _, f := range frame.Cut(1, 2, someBody(60, 4)) {
		b, _ := frame.Pack(f)
		sectors = append(sectors, b)
	}
	for _, s := range sectors {
		if len(s) != 64 {
			t.Fatalf("a sector of %d bytes", len(s))
		}
		for at := range s {
			for x := 1; x < 256; x++ {
				s[at] ^= byte(x)
				wantNoFrame(t, "another byte", s)
				s[at] ^= byte(x)
			}
		}
		if _, e := frame.Parse(s); e != api.OK {
			t.Errorf("Parse of the sector itself = %d", e)
		}
	}
}

func TestAllBytesAlike(t *testing.T) {
	for x := range 256 {
		wantNoFrame(t, "bytes that are all alike", bytes.Repeat([]byte{byte(x)}, 64))
	}
}

// joined is bodies, one behind the other.
func joined(frames []frame.Frame) []byte {
	var b []byte
	for _, f := range frames {
		b = append(b, f.Body...)
	}
	return b
}

// P5.3: what is cut is whole, also by way of sectors.
func TestCutIsWhole(t *testing.T) {
	for n := range 512 {
		rec := someBody(n, byte(n))
		frames := frame.Cut(1, math.MaxUint32, rec)
		if !bytes.Equal(joined(frames), rec) {
			t.Errorf("of %d bytes: the bodies are % x", n, joined(frames))
		}
		for i, f := range frames {
			b, e := frame.Pack(f)
			if e != api.OK {
				t.Fatalf("Pack(%v) = %d", f, e)
			}
			wantParse(t, b, f)
			frames[i], _ = frame.Parse(b)
		}
		if !bytes.Equal(joined(frames), rec) {
			t.Errorf("of %d bytes: the bodies of the sectors are % x", n, joined(frames))
		}
	}
}

// check asks of whatever bytes whether they are a frame's, and whose.
func check(t *testing.T, b []byte) {
	t.Helper()
	if !isSector(b) {
		wantNoFrame(t, "no frame's sector", b)
		return
	}
	f, e := frame.Parse(b)
	if e != api.OK || !bytes.Equal(sectorOf(f), b) {
		t.Errorf("Parse(% x) = %v, %d", b, f, e)
	}
	wantPack(t, f, b)
}

// P5.1 and P5.3: sectors of which some bytes are others, half of them with their right sum.
func TestWhateverIsChanged(t *testing.T) {
	r := rand.New(rand.NewSource(1))
	for range 20000 {
		f := frame.Frame{Epoch: r.Uint32(), Seq: r.Uint32(), Flag: byte(r.Intn(256)), Body: someBody(r.Intn(51), byte(r.Intn(256)))}
		b := sectorOf(f)
		for range r.Intn(4) {
			b[r.Intn(64)] = byte(r.Intn(256))
		}
		if r.Intn(2) == 0 {
			b = append(b[:60], sumOf(b[:60])...)
		}
		check(t, b)
	}
}

// P1: whatever bytes come, and as the first 60 of a sector with their sum.
func FuzzParse(f *testing.F) {
	f.Add([]byte{})
	f.Add(make([]byte, 60))
	f.Add(sectorOf(frame.Frame{Epoch: 1, Seq: 2, Flag: 3, Body: []byte("ab")}))
	f.Add(sectorOf(frame.Frame{Body: bytes.Repeat([]byte{255}, 50)})[:60])
	f.Fuzz(func(t *testing.T, b []byte) {
		check(t, b)
		check(t, append(bytes.Clone(b), sumOf(b)...))
		if len(b) > 60 {
			check(t, append(bytes.Clone(b[:60]), sumOf(b[:60])...))
		}
	})
}

// P1: the same of whatever is packed and cut.
func FuzzCut(f *testing.F) {
	f.Add(uint32(0), uint32(0), byte(0), []byte{})
	f.Add(uint32(1), uint32(math.MaxUint32), byte(3), bytes.Repeat([]byte("a"), 51))
	f.Add(uint32(math.MaxUint32), uint32(5), byte(255), make([]byte, 50))
	f.Fuzz(func(t *testing.T, epoch, seq uint32, flag byte, rec []byte) {
		wantCut(t, epoch, seq, rec)
		one := frame.Frame{Epoch: epoch, Seq: seq, Flag: flag, Body: rec}
		if len(rec) <= 50 {
			wantPack(t, one, sectorOf(one))
			wantParse(t, sectorOf(one), one)
		} else if b, e := frame.Pack(one); e != api.ErrFull || len(b) != 0 {
			t.Errorf("Pack of %d bytes = % x, %d", len(rec), b, e)
		}
	})
}

// P5.1 and P5.2: the constants.
func TestConstants(t *testing.T) {
	if frame.Room != 50 || frame.First != 1 || frame.Last != 2 {
		t.Errorf("Room, First, Last = %d, %d, %d", frame.Room, frame.First, frame.Last)
	}
}

// R4 and R6: the package keeps nothing from call to call, and calls no layer but pack and crc.
func TestFrameCallsPackAndCrcAlone(t *testing.T) {
	file, err := parser.ParseFile(token.NewFileSet(), "frame.go", nil, 0)
	if err != nil {
		t.Fatal(err)
	}
	for _, i := range file.Imports {
		p := strings.Trim(i.Path.Value, `"`)
		if strings.HasPrefix(p, "ogive/") && p != "ogive/api" && p != "ogive/pack" && p != "ogive/crc" {
			t.Errorf("frame imports %s", p)
		}
	}
	for _, d := range file.Decls {
		if g, ok := d.(*ast.GenDecl); ok && g.Tok == token.VAR {
			t.Error("frame has a variable at package level")
		}
	}
}
