package pack_test

import (
	"go/ast"
	"go/parser"
	"go/token"
	"math"
	"strings"
	"testing"

	"ogive/api"
	"ogive/pack"
)

// behinds are what may stand behind something that was packed: nothing, the bytes that mean something within a text, and more.
var behinds = []string{"", "\x00", "\x01", "\xff", "x", "\x00\x01", "\x00\xff", "\xff\xff\xff\xff", "\x00\x00\x00\x00", "a\x00\x01b"}

// edgeBytes are the bytes that mean something within a packed text, and their neighbours.
const edgeBytes = "\x00\x01\x02a\xfe\xff"

// shortStrings are all strings of edgeBytes, of so many bytes at most.
func shortStrings(most int) []string {
	l := []string{""}
	for from, many := 0, 0; many < most; many++ {
		to := len(l)
		for _, s := range l[from:to] {
			for i := range len(edgeBytes) {
				l = append(l, s+edgeBytes[i:i+1])
			}
		}
		from = to
	}
	return l
}

// someTexts are ordinary texts, the empty one, long ones, and all short ones of the bytes that matter.
func someTexts() []string {
	var all strings.Builder
	for c := range 256 {
		all.WriteByte(byte(c))
	}
	return append(shortStrings(3), "hello", "Ada Lovelace", "größer", "abc\xc3\x28",
		all.String(), strings.Repeat("\x00", 300), strings.Repeat("\xff", 300), strings.Repeat("ogive ", 5000))
}

// someNums rise.
func someNums() []uint32 {
	return []uint32{0, 1, 2, 42, 255, 256, 258, 65535, 65536, 1<<24 - 1, 1 << 24, 0x01020304, 1<<31 - 1, 1 << 31, math.MaxUint32 - 1, math.MaxUint32}
}

// someInts rise.
func someInts() []int64 {
	return []int64{math.MinInt64, math.MinInt64 + 1, math.MinInt32 - 1, math.MinInt32, -65536, -257, -256, -255, -2, -1, 0, 1, 2, 42, 255, 256,
		65536, math.MaxInt32, math.MaxInt32 + 1, api.MaxStamp, 0x0102030405060708, math.MaxInt64 - 1, math.MaxInt64}
}

// P1.1

func TestNumIsFourBytesHighestFirst(t *testing.T) {
	for _, c := range []struct {
		n    uint32
		want string
	}{
		{0, "\x00\x00\x00\x00"},
		{1, "\x00\x00\x00\x01"},
		{42, "\x00\x00\x00\x2a"},
		{255, "\x00\x00\x00\xff"},
		{256, "\x00\x00\x01\x00"},
		{0x01020304, "\x01\x02\x03\x04"},
		{1 << 31, "\x80\x00\x00\x00"},
		{math.MaxUint32, "\xff\xff\xff\xff"},
	} {
		if got := pack.Num(c.n); got != c.want {
			t.Errorf("Num(%d) = %x, want %x", c.n, got, c.want)
		}
	}
}

func TestIntIsEightBytesHighestFirst(t *testing.T) {
	for _, c := range []struct {
		n    int64
		want string
	}{
		{math.MinInt64, "\x00\x00\x00\x00\x00\x00\x00\x00"},
		{math.MinInt64 + 1, "\x00\x00\x00\x00\x00\x00\x00\x01"},
		{-256, "\x7f\xff\xff\xff\xff\xff\xff\x00"},
		{-1, "\x7f\xff\xff\xff\xff\xff\xff\xff"},
		{0, "\x80\x00\x00\x00\x00\x00\x00\x00"},
		{1, "\x80\x00\x00\x00\x00\x00\x00\x01"},
		{42, "\x80\x00\x00\x00\x00\x00\x00\x2a"},
		{api.MaxStamp, "\x80\x00\x01\x00\x00\x00\x00\x00"},
		{0x0102030405060708, "\x81\x02\x03\x04\x05\x06\x07\x08"},
		{math.MaxInt64, "\xff\xff\xff\xff\xff\xff\xff\xff"},
	} {
		if got := pack.Int(c.n); got != c.want {
			t.Errorf("Int(%d) = %x, want %x", c.n, got, c.want)
		}
	}
}

func TestTextMarksZerosAndItsEnd(t *testing.T) {
	for _, c := range []struct{ s, want string }{
		{"", "\x00\x01"},
		{"a", "a\x00\x01"},
		{"hello", "hello\x00\x01"},
		{"größer", "größer\x00\x01"},
		{"\x00", "\x00\xff\x00\x01"},
		{"\x00\x00", "\x00\xff\x00\xff\x00\x01"},
		{"a\x00", "a\x00\xff\x00\x01"},
		{"\x00a", "\x00\xffa\x00\x01"},
		{"\x01", "\x01\x00\x01"},
		{"\xff", "\xff\x00\x01"},
		{"\x00\x01", "\x00\xff\x01\x00\x01"},
		{"\x00\xff", "\x00\xff\xff\x00\x01"},
		{"a\x00b\x01c\xffd", "a\x00\xffb\x01c\xffd\x00\x01"},
	} {
		if got := pack.Text(c.s); got != c.want {
			t.Errorf("Text(%q) = %x, want %x", c.s, got, c.want)
		}
	}
}

func TestTextOfManyBytes(t *testing.T) {
	for _, s := range someTexts() {
		want := strings.ReplaceAll(s, "\x00", "\x00\xff") + "\x00\x01"
		if got := pack.Text(s); got != want {
			t.Errorf("Text(%q) = %x, want %x", s, got, want)
		}
	}
}

// P1.2

func TestTakeNumTellsTheRest(t *testing.T) {
	for _, c := range []struct {
		s    string
		n    uint32
		rest string
	}{
		{"\x00\x00\x00\x00", 0, ""},
		{"\x00\x00\x01\x02", 258, ""},
		{"\x01\x02\x03\x04x", 0x01020304, "x"},
		{"\xff\xff\xff\xff\x00\x01", math.MaxUint32, "\x00\x01"},
		{"\x80\x00\x00\x00\x00\x00\x00\x00", 1 << 31, "\x00\x00\x00\x00"},
	} {
		if n, rest, e := pack.TakeNum(c.s); n != c.n || rest != c.rest || e != api.OK {
			t.Errorf("TakeNum(%x) = %d, %q, %d; want %d, %q, 0", c.s, n, rest, e, c.n, c.rest)
		}
	}
}

func TestTakeIntTellsTheRest(t *testing.T) {
	for _, c := range []struct {
		s    string
		n    int64
		rest string
	}{
		{"\x00\x00\x00\x00\x00\x00\x00\x00", math.MinInt64, ""},
		{"\x7f\xff\xff\xff\xff\xff\xff\xff!", -1, "!"},
		{"\x80\x00\x00\x00\x00\x00\x00\x00\x00\x01", 0, "\x00\x01"},
		{"\x80\x00\x00\x00\x00\x00\x01\x02xyz", 258, "xyz"},
		{"\xff\xff\xff\xff\xff\xff\xff\xff", math.MaxInt64, ""},
		{"\xff\xff\xff\xff\xff\xff\xff\xff\xff", math.MaxInt64, "\xff"},
	} {
		if n, rest, e := pack.TakeInt(c.s); n != c.n || rest != c.rest || e != api.OK {
			t.Errorf("TakeInt(%x) = %d, %q, %d; want %d, %q, 0", c.s, n, rest, e, c.n, c.rest)
		}
	}
}

func TestTakeTextTellsTheRest(t *testing.T) {
	for _, c := range []struct{ s, text, rest string }{
		{"\x00\x01", "", ""},
		{"\x00\x01\x00\x01", "", "\x00\x01"},
		{"hello\x00\x01", "hello", ""},
		{"hello\x00\x01world\x00\x01", "hello", "world\x00\x01"},
		{"\x00\xffb\x00\x01cd", "\x00b", "cd"},
		{"\x00\xff\x00\xff\x00\x01\xff", "\x00\x00", "\xff"},
		{"\x00\xff\x01\x00\x01", "\x00\x01", ""},
		{"\x00\xff\xff\x00\x01", "\x00\xff", ""},
		{"\x01\xff\x00\x01\x00", "\x01\xff", "\x00"},
	} {
		if text, rest, e := pack.TakeText(c.s); text != c.text || rest != c.rest || e != api.OK {
			t.Errorf("TakeText(%x) = %q, %q, %d; want %q, %q, 0", c.s, text, rest, e, c.text, c.rest)
		}
	}
}

func TestTakeNumAndTakeIntOfTooFewBytes(t *testing.T) {
	for _, fill := range []string{"\x00", "\x01", "7", "\x80", "\xff"} {
		for many := range 8 {
			s := strings.Repeat(fill, many)
			if n, rest, e := pack.TakeInt(s); n != 0 || rest != "" || e != api.ErrForm {
				t.Errorf("TakeInt(%x) = %d, %q, %d; want 0, \"\", ErrForm", s, n, rest, e)
			}
			if many >= 4 {
				continue
			}
			if n, rest, e := pack.TakeNum(s); n != 0 || rest != "" || e != api.ErrForm {
				t.Errorf("TakeNum(%x) = %d, %q, %d; want 0, \"\", ErrForm", s, n, rest, e)
			}
		}
	}
}

func TestTakeTextOfNoText(t *testing.T) {
	for _, s := range []string{
		"", "a", "ab", "\x01", "\xff",
		"\x00", "a\x00", "a\x00\xff", "\x00\xff\x00", strings.Repeat("a", 5000),
		"\x00\x00", "\x00\x00\x01", "\x00\x02\x00\x01", "\x00a\x00\x01", "\x00\xfe\x00\x01",
		"a\x00\xff\x00\x00\x01", "a\x00b\x00\x01cd",
	} {
		if text, rest, e := pack.TakeText(s); text != "" || rest != "" || e != api.ErrForm {
			t.Errorf("TakeText(%x) = %q, %q, %d; want \"\", \"\", ErrForm", s, text, rest, e)
		}
	}
}

// Each short string is held against P1.2's own words: some text's Text is what it begins with, or none's is.
func TestTakeTextOfAllShortStrings(t *testing.T) {
	texts := shortStrings(4)
	byPacked := map[string]string{}
	for _, text := range texts {
		byPacked[pack.Text(text)] = text
	}
	for _, s := range shortStrings(5) {
		wantText, wantRest, want := "", "", api.ErrForm
		for to := range len(s) + 1 {
			if text, ok := byPacked[s[:to]]; ok {
				wantText, wantRest, want = text, s[to:], api.OK
			}
		}
		if text, rest, e := pack.TakeText(s); text != wantText || rest != wantRest || e != want {
			t.Errorf("TakeText(%x) = %q, %q, %d; want %q, %q, %d", s, text, rest, e, wantText, wantRest, want)
		}
	}
}

// P1.3, P6

func TestWhatWasPackedIsTaken(t *testing.T) {
	for _, behind := range behinds {
		for _, n := range someNums() {
			if got, rest, e := pack.TakeNum(pack.Num(n) + behind); got != n || rest != behind || e != api.OK {
				t.Errorf("Num %d, %q behind: %d, %q, %d", n, behind, got, rest, e)
			}
		}
		for _, n := range someInts() {
			if got, rest, e := pack.TakeInt(pack.Int(n) + behind); got != n || rest != behind || e != api.OK {
				t.Errorf("Int %d, %q behind: %d, %q, %d", n, behind, got, rest, e)
			}
		}
		for _, s := range someTexts() {
			if got, rest, e := pack.TakeText(pack.Text(s) + behind); got != s || rest != behind || e != api.OK {
				t.Errorf("Text %q, %q behind: %q, %q, %d", s, behind, got, rest, e)
			}
		}
	}
}

func TestSeveralPackedAreTakenInTurn(t *testing.T) {
	s := pack.Text("a\x00b") + pack.Int(-7) + pack.Num(9) + pack.Text("")
	text, s, e := pack.TakeText(s)
	if text != "a\x00b" || e != api.OK {
		t.Fatalf("text: %q, %d", text, e)
	}
	i, s, e := pack.TakeInt(s)
	if i != -7 || e != api.OK {
		t.Fatalf("int: %d, %d", i, e)
	}
	n, s, e := pack.TakeNum(s)
	if n != 9 || e != api.OK {
		t.Fatalf("num: %d, %d", n, e)
	}
	if text, s, e = pack.TakeText(s); text != "" || s != "" || e != api.OK {
		t.Fatalf("empty text: %q, %q, %d", text, s, e)
	}
}

func TestWhatIsTakenHasTheVeryBytes(t *testing.T) {
	for _, s := range shortStrings(5) {
		if n, rest, e := pack.TakeNum(s); e == api.OK && pack.Num(n)+rest != s {
			t.Errorf("TakeNum(%x): %d, %q", s, n, rest)
		}
		if text, rest, e := pack.TakeText(s); e == api.OK && pack.Text(text)+rest != s {
			t.Errorf("TakeText(%x): %q, %q", s, text, rest)
		}
		long := s + "\x00\x7f\x80\xff"
		if n, rest, e := pack.TakeInt(long); e == api.OK && pack.Int(n)+rest != long {
			t.Errorf("TakeInt(%x): %d, %q", long, n, rest)
		}
	}
}

// P1.4

func TestTheLowerNumberHasTheLowerString(t *testing.T) {
	nums, ints := someNums(), someInts()
	for i := 1; i < len(nums); i++ {
		if a, b := pack.Num(nums[i-1]), pack.Num(nums[i]); a >= b {
			t.Errorf("Num: %d is %x, %d is %x", nums[i-1], a, nums[i], b)
		}
	}
	for i := 1; i < len(ints); i++ {
		if a, b := pack.Int(ints[i-1]), pack.Int(ints[i]); a >= b {
			t.Errorf("Int: %d is %x, %d is %x", ints[i-1], a, ints[i], b)
		}
	}
}

func TestTheLowerTextHasTheLowerString(t *testing.T) {
	texts := append(shortStrings(2), "a\x00b", "a\x00\xff", "a\x00\x01", "aa", "abc", "abd", "ab\x00\x00", strings.Repeat("a", 40))
	for _, a := range texts {
		for _, b := range texts {
			if a >= b {
				continue
			}
			for _, x := range behinds {
				for _, y := range behinds {
					if pack.Text(a)+x >= pack.Text(b)+y {
						t.Errorf("%q with %q behind is not below %q with %q behind", a, x, b, y)
					}
				}
			}
		}
	}
}

// P1: the same holds of whatever bytes come.
func FuzzTake(f *testing.F) {
	for _, s := range behinds {
		f.Add(s)
	}
	f.Add(pack.Text("a\x00b") + pack.Int(-1) + pack.Num(258))
	f.Fuzz(func(t *testing.T, s string) {
		if n, rest, e := pack.TakeNum(s); e == api.OK && pack.Num(n)+rest != s || (e == api.OK) != (len(s) >= 4) {
			t.Errorf("TakeNum(%x): %d, %q, %d", s, n, rest, e)
		}
		if n, rest, e := pack.TakeInt(s); e == api.OK && pack.Int(n)+rest != s || (e == api.OK) != (len(s) >= 8) {
			t.Errorf("TakeInt(%x): %d, %q, %d", s, n, rest, e)
		}
		if text, rest, e := pack.TakeText(s); e == api.OK && pack.Text(text)+rest != s {
			t.Errorf("TakeText(%x): %q, %q, %d", s, text, rest, e)
		}
		if text, rest, e := pack.TakeText(pack.Text(s) + s); text != s || rest != s || e != api.OK {
			t.Errorf("Text(%x): %q, %q, %d", s, text, rest, e)
		}
	})
}

// R4 and R6: the package keeps nothing from call to call, and calls no other layer.
func TestPackStandsAlone(t *testing.T) {
	file, err := parser.ParseFile(token.NewFileSet(), "pack.go", nil, 0)
	if err != nil {
		t.Fatal(err)
	}
	for _, i := range file.Imports {
		if i.Path.Value != `"ogive/api"` {
			t.Errorf("pack imports %s", i.Path.Value)
		}
	}
	for _, d := range file.Decls {
		if g, ok := d.(*ast.GenDecl); ok && g.Tok == token.VAR {
			t.Error("pack has a variable at package level")
		}
	}
}
