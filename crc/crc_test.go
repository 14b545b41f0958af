package crc_test

import (
	"bytes"
	"go/ast"
	"go/parser"
	"go/token"
	hash "hash/crc32"
	"math"
	"slices"
	"testing"

	"ogive/crc"
)

// someSums are what More may go on from: sums of texts, and numbers that no text need have.
var someSums = []uint32{0, 1, 2, 0x7FFFFFFF, 0x80000000, 0x82F63B78, 0xE3069283, 0xF26B8303, 0xAAAAAAAA, 0x01020304, math.MaxUint32 - 1, math.MaxUint32}

// allBytes are the bytes from 0 to 255.
func allBytes() []byte {
	b := make([]byte, 256)
	for i := range b {
		b[i] = byte(i)
	}
	return b
}

// someBytes are no bytes, few, as many as a sector has, and many.
func someBytes() [][]byte {
	return [][]byte{nil, {}, {0}, {255}, {0, 0}, {255, 255}, []byte("a"), []byte("123456789"), []byte("größer"),
		make([]byte, 64), bytes.Repeat([]byte{255}, 64), allBytes(), bytes.Repeat([]byte("ogive "), 5000), make([]byte, 100000)}
}

// bySteps is the chapter's own way: no table.
func bySteps(c uint32, b []byte) uint32 {
	c = ^c
	for _, x := range b {
		c = stepped(c ^ uint32(x))
	}
	return ^c
}

// stepped is what eight of the chapter's steps make of a number.
func stepped(n uint32) uint32 {
	for range 8 {
		low := n % 2
		n /= 2
		if low == 1 {
			n ^= 0x82F63B78
		}
	}
	return n
}

// P2.1

func TestTableIsEightStepsOfEachByte(t *testing.T) {
	table := crc.Table()
	for i, got := range table {
		if want := stepped(uint32(i)); got != want {
			t.Errorf("Table()[%d] = %#x, want %#x", i, got, want)
		}
	}
}

func TestTableAtNumbersWrittenOut(t *testing.T) {
	table := crc.Table()
	for i, want := range map[int]uint32{0: 0, 1: 0xF26B8303, 2: 0xE13B70F7, 128: 0x82F63B78, 255: 0xAD7D5351} {
		if table[i] != want {
			t.Errorf("Table()[%d] = %#x, want %#x", i, table[i], want)
		}
	}
}

func TestOfBytesWrittenOut(t *testing.T) {
	rising := allBytes()[:32]
	falling := slices.Clone(rising)
	slices.Reverse(falling)
	for _, c := range []struct {
		b    []byte
		want uint32
	}{
		{nil, 0},
		{[]byte{}, 0},
		{[]byte{0}, 0x527D5351},
		{[]byte{255}, 0xFF000000},
		{[]byte("a"), 0xC1D04330},
		{[]byte("123456789"), 0xE3069283},
		{make([]byte, 32), 0x8A9136AA},
		{bytes.Repeat([]byte{255}, 32), 0x62A8AB43},
		{rising, 0x46DD794E},
		{falling, 0x113FDB5C},
	} {
		if got := crc.Of(c.b); got != c.want {
			t.Errorf("Of(%x) = %#x, want %#x", c.b, got, c.want)
		}
	}
}

func TestMoreOfNothingIsTheSumItself(t *testing.T) {
	for _, c := range someSums {
		if got := crc.More(c, nil); got != c {
			t.Errorf("More(%#x, nil) = %#x", c, got)
		}
		if got := crc.More(c, []byte{}); got != c {
			t.Errorf("More(%#x, []byte{}) = %#x", c, got)
		}
	}
}

func TestMoreOfOneByteBehindAnySum(t *testing.T) {
	for _, c := range someSums {
		for _, x := range allBytes() {
			b := []byte{x}
			if got, want := crc.More(c, b), bySteps(c, b); got != want {
				t.Errorf("More(%#x, %x) = %#x, want %#x", c, b, got, want)
			}
		}
	}
	if got := crc.More(math.MaxUint32, []byte{0}); got != math.MaxUint32 {
		t.Errorf("More of all bits and a byte 0: %#x", got)
	}
}

func TestMoreIsEightStepsOfEachByte(t *testing.T) {
	for _, b := range someBytes() {
		for _, c := range someSums {
			if got, want := crc.More(c, b), bySteps(c, b); got != want {
				t.Errorf("More(%#x) of %d bytes = %#x, want %#x", c, len(b), got, want)
			}
		}
		if got, want := crc.Of(b), bySteps(0, b); got != want {
			t.Errorf("Of %d bytes = %#x, want %#x", len(b), got, want)
		}
	}
}

func TestSumsAreTheLibrarysCastagnoli(t *testing.T) {
	table := hash.MakeTable(hash.Castagnoli)
	if got := crc.Table(); got != [256]uint32(*table) {
		t.Error("Table is another one")
	}
	for _, b := range someBytes() {
		if got, want := crc.Of(b), hash.Checksum(b, table); got != want {
			t.Errorf("Of %d bytes = %#x, want %#x", len(b), got, want)
		}
		for _, c := range someSums {
			if got, want := crc.More(c, b), hash.Update(c, table, b); got != want {
				t.Errorf("More(%#x) of %d bytes = %#x, want %#x", c, len(b), got, want)
			}
		}
	}
}

// P2.2

func TestTheSumOfTwoPartsIsMoreOfTheSecond(t *testing.T) {
	for _, b := range [][]byte{nil, {0}, []byte("123456789"), make([]byte, 64), allBytes()} {
		for at := range len(b) + 1 {
			if got, want := crc.More(crc.Of(b[:at]), b[at:]), crc.Of(b); got != want {
				t.Errorf("%x cut at %d: %#x, want %#x", b, at, got, want)
			}
			for _, c := range someSums {
				if got, want := crc.More(crc.More(c, b[:at]), b[at:]), crc.More(c, b); got != want {
					t.Errorf("%x behind %#x, cut at %d: %#x, want %#x", b, c, at, got, want)
				}
			}
		}
	}
}

func TestOneOtherByteIsTold(t *testing.T) {
	for _, b := range [][]byte{{0}, {255}, []byte("123456789"), make([]byte, 60), bytes.Repeat([]byte{255}, 60)} {
		want := crc.Of(b)
		for at := range b {
			for _, x := range allBytes() {
				other := slices.Clone(b)
				other[at] = x
				if got := crc.Of(other); (got == want) != (x == b[at]) {
					t.Errorf("%x with %d at %d: %#x, and %#x as it was", b, x, at, got, want)
				}
			}
		}
	}
}

func TestUnlikeNeighboursThatChangePlacesAreTold(t *testing.T) {
	for _, x := range allBytes() {
		for _, y := range allBytes() {
			if a, b := crc.Of([]byte{x, y}), crc.Of([]byte{y, x}); (a == b) != (x == y) {
				t.Errorf("%d, %d: %#x, and %#x with places changed", x, y, a, b)
			}
		}
	}
	for _, b := range [][]byte{[]byte("123456789"), []byte("aabbcc"), allBytes()} {
		want := crc.Of(b)
		for at := 1; at < len(b); at++ {
			other := slices.Clone(b)
			other[at-1], other[at] = b[at], b[at-1]
			if got := crc.Of(other); (got == want) != (b[at-1] == b[at]) {
				t.Errorf("%x with %d and %d changed: %#x, and %#x as it was", b, at-1, at, got, want)
			}
		}
	}
}

// P2.3

func TestTheTableKeepsExclusiveOr(t *testing.T) {
	table := crc.Table()
	for x := range 256 {
		for y := range 256 {
			if table[x]^table[y] != table[x^y] {
				t.Errorf("Table at %d and %d: %#x, at both %#x", x, y, table[x]^table[y], table[x^y])
			}
		}
	}
}

// P1: the same holds of whatever bytes come.
func FuzzMore(f *testing.F) {
	f.Add(uint32(0), []byte("123456789"), 4)
	f.Add(uint32(math.MaxUint32), []byte{}, 0)
	f.Fuzz(func(t *testing.T, c uint32, b []byte, at int) {
		want := bySteps(c, b)
		if got := crc.More(c, b); got != want {
			t.Errorf("More(%#x, %x) = %#x, want %#x", c, b, got, want)
		}
		if at < 0 || at > len(b) {
			return
		}
		if got := crc.More(crc.More(c, b[:at]), b[at:]); got != want {
			t.Errorf("%x behind %#x, cut at %d: %#x, want %#x", b, c, at, got, want)
		}
	})
}

// R3

func TestBytesHandedInStayAsTheyAre(t *testing.T) {
	for _, b := range someBytes() {
		was := slices.Clone(b)
		crc.Of(b)
		crc.More(7, b)
		if !bytes.Equal(b, was) {
			t.Errorf("%d bytes were changed", len(b))
		}
	}
}

func TestTheTableToldIsTheCallersOwn(t *testing.T) {
	mine := crc.Table()
	was := mine
	clear(mine[:])
	if crc.Table() != was {
		t.Error("Table tells what a caller made of it")
	}
	if got := crc.Of([]byte("123456789")); got != 0xE3069283 {
		t.Errorf("Of tells %#x behind a caller's change of the table", got)
	}
}

// R4 and R6: the package keeps nothing from call to call, and calls no other layer.
func TestCrcStandsAlone(t *testing.T) {
	file, err := parser.ParseFile(token.NewFileSet(), "crc.go", nil, 0)
	if err != nil {
		t.Fatal(err)
	}
	for _, i := range file.Imports {
		t.Errorf("crc imports %s", i.Path.Value)
	}
	for _, d := range file.Decls {
		if g, ok := d.(*ast.GenDecl); ok && g.Tok == token.VAR {
			t.Error("crc has a variable at package level")
		}
	}
}
