package value_test

import (
	"bytes"
	"go/ast"
	"go/parser"
	"go/token"
	"math"
	"slices"
	"strings"
	"testing"

	"ogive/api"
	"ogive/pack"
	"ogive/value"
)

// behinds are what may stand behind a value that was put: nothing, bytes that mean something within a text, other values, and more.
var behinds = []string{"", "\x00", "\x01", "\x02", "\x03", "\xff", "x", "\x00\x01", "\x00\xff", "\xff\xff\xff\xff\xff\xff\xff\xff\xff", "a\x00\x01b",
	"\x02ab\x00\x01", "\x01\x80\x00\x00\x00\x00\x00\x00\x07"}

// someTypes rise: each T there is, those that aren't bytes, and those whose lowest byte is a T.
var someTypes = []int{math.MinInt64, -1 << 32, -257, -256, -255, -254, -253, -3, -2, -1, api.TNone, api.TInt, api.TText, api.TBool, 4, 5, 100, 127, 128,
	253, 254, 255, 256, 257, 258, 259, 511, 512, 1 << 32, 1<<32 + 1, math.MaxInt64}

// someNumbers rise.
var someNumbers = []int64{math.MinInt64, math.MinInt64 + 1, -1 << 32, -256, -255, -3, -2, -1, 0, 1, 2, 3, 42, 255, 256, 1 << 32, 1<<32 + 1, api.MaxStamp,
	0x0102030405060708, math.MaxInt64 - 1, math.MaxInt64}

// someTexts rise. Some begin others, and some have more bytes than a value may have.
func someTexts() []string {
	l := []string{"", "\x00", "\x00\x00", "\x00\x01", "\x00\xff", "\x01", "\x01\x00", " ", "12", "A", "a", "a\x00", "a\x00\x00", "a\x00\x01", "a\x00\xff", "a\x01", "aa", "ab",
		"abc", "a\xff", "b", "größer", "z", "\x7f", "\x80", "\xc3\x28", "\xfe", "\xff", "\xff\x00", "\xff\xff"}
	for _, s := range []string{"\x00", "a", "\xff"} {
		l = append(l, strings.Repeat(s, 15), strings.Repeat(s, 16), strings.Repeat(s, 17), strings.Repeat(s, 300))
	}
	slices.Sort(l)
	return l
}

// someValues are all of the T, N and S above, those that may be and those that may not.
func someValues() []api.Val {
	var l []api.Val
	for _, t := range someTypes {
		for _, n := range someNumbers {
			for _, s := range someTexts() {
				l = append(l, api.Val{T: t, N: n, S: s})
			}
		}
	}
	return l
}

// goodValues are values that may be, each just once, in their order.
func goodValues() []api.Val {
	l := []api.Val{{T: api.TNone}}
	for _, n := range someNumbers {
		l = append(l, api.Val{T: api.TInt, N: n})
	}
	for _, s := range someTexts() {
		if len(s) <= 16 {
			l = append(l, api.Val{T: api.TText, S: s})
		}
	}
	return append(l, api.Val{T: api.TBool, N: 0}, api.Val{T: api.TBool, N: 1})
}

// may is P3.1's own words.
func may(v api.Val) bool {
	return v.T == 0 && v.N == 0 && len(v.S) == 0 ||
		v.T == 1 && len(v.S) == 0 ||
		v.T == 2 && v.N == 0 && len(v.S) <= 16 ||
		v.T == 3 && (v.N == 0 || v.N == 1) && len(v.S) == 0
}

// rises tells the order of two places in a list that rises.
func rises(i, j int) int {
	switch {
	case i < j:
		return -1
	case i > j:
		return 1
	}
	return 0
}

// put is P3.2's own words.
func put(v api.Val) string {
	first := byte(255)
	if 0 <= v.T && v.T <= 255 {
		first = byte(v.T)
	}
	b := []byte{first}
	if v.T == 1 || v.T == 3 {
		b = append(b, pack.Int(v.N)...)
	}
	if v.T == 2 {
		b = append(b, pack.Text(v.S)...)
	}
	return string(b)
}

// isNothing tells whether Take told just ErrForm.
func isNothing(v api.Val, rest string, e api.Errno) bool {
	return v == api.Val{} && rest == "" && e == api.ErrForm
}

// P3.1

func TestMayOfValuesWrittenOut(t *testing.T) {
	text16, text17 := strings.Repeat("x", 16), strings.Repeat("x", 17)
	for _, c := range []struct {
		v    api.Val
		want bool
	}{
		{api.Val{}, true},
		{api.Val{T: api.TNone, N: 1}, false},
		{api.Val{T: api.TNone, N: -1}, false},
		{api.Val{T: api.TNone, N: math.MinInt64}, false},
		{api.Val{T: api.TNone, S: "x"}, false},
		{api.Val{T: api.TNone, S: "\x00"}, false},
		{api.Val{T: api.TInt}, true},
		{api.Val{T: api.TInt, N: 1}, true},
		{api.Val{T: api.TInt, N: -3}, true},
		{api.Val{T: api.TInt, N: math.MinInt64}, true},
		{api.Val{T: api.TInt, N: math.MaxInt64}, true},
		{api.Val{T: api.TInt, S: "x"}, false},
		{api.Val{T: api.TInt, N: 7, S: "\x00"}, false},
		{api.Val{T: api.TText}, true},
		{api.Val{T: api.TText, S: "ab"}, true},
		{api.Val{T: api.TText, S: "\xff\x00\xc3\x28"}, true},
		{api.Val{T: api.TText, S: text16}, true},
		{api.Val{T: api.TText, S: text17}, false},
		{api.Val{T: api.TText, S: strings.Repeat("ö", 8)}, true},
		{api.Val{T: api.TText, S: strings.Repeat("ö", 9)}, false},
		{api.Val{T: api.TText, S: strings.Repeat("x", 100000)}, false},
		{api.Val{T: api.TText, N: 1}, false},
		{api.Val{T: api.TText, N: 1, S: "ab"}, false},
		{api.Val{T: api.TText, N: -1, S: text16}, false},
		{api.Val{T: api.TBool, N: 0}, true},
		{api.Val{T: api.TBool, N: 1}, true},
		{api.Val{T: api.TBool, N: 2}, false},
		{api.Val{T: api.TBool, N: -1}, false},
		{api.Val{T: api.TBool, N: math.MaxInt64}, false},
		{api.Val{T: api.TBool, N: 1 << 32}, false},
		{api.Val{T: api.TBool, N: 0, S: "x"}, false},
		{api.Val{T: api.TBool, N: 1, S: "x"}, false},
		{api.Val{T: 4}, false},
		{api.Val{T: 255}, false},
		{api.Val{T: 256}, false},
		{api.Val{T: 257}, false},
		{api.Val{T: 258, S: "ab"}, false},
		{api.Val{T: -1}, false},
		{api.Val{T: -255}, false},
		{api.Val{T: math.MinInt64}, false},
		{api.Val{T: math.MaxInt64}, false},
	} {
		if got := value.May(c.v); got != c.want {
			t.Errorf("May(%+v) = %v, want %v", c.v, got, c.want)
		}
	}
}

func TestMayIsAsTheChapterSays(t *testing.T) {
	for _, v := range someValues() {
		if got, want := value.May(v), may(v); got != want {
			t.Errorf("May(%+v) = %v, want %v", v, got, want)
		}
	}
}

func TestCompareOfValuesWrittenOut(t *testing.T) {
	for _, c := range []struct {
		a, b api.Val
		want int
	}{
		{api.Val{}, api.Val{}, 0},
		{api.Val{T: api.TInt, N: 9}, api.Val{T: api.TText, S: "a"}, -1},
		{api.Val{T: api.TNone}, api.Val{T: api.TInt, N: math.MinInt64}, -1},
		{api.Val{T: api.TText, S: "zz"}, api.Val{T: api.TBool}, -1},
		{api.Val{T: api.TInt, N: -3}, api.Val{T: api.TInt, N: 2}, -1},
		{api.Val{T: api.TInt, N: math.MinInt64}, api.Val{T: api.TInt, N: math.MaxInt64}, -1},
		{api.Val{T: math.MinInt64}, api.Val{T: math.MaxInt64}, -1},
		{api.Val{T: api.TText, S: "ab"}, api.Val{T: api.TText, S: "abc"}, -1},
		{api.Val{T: api.TText, S: ""}, api.Val{T: api.TText, S: "\x00"}, -1},
		{api.Val{T: api.TText, S: "a\x00"}, api.Val{T: api.TText, S: "a\x01"}, -1},
		{api.Val{T: api.TText, S: "\x7f"}, api.Val{T: api.TText, S: "\x80"}, -1},
		{api.Val{T: api.TText, S: "\x00"}, api.Val{T: api.TText, S: "\xff"}, -1},
		{api.Val{T: api.TText, S: "Z"}, api.Val{T: api.TText, S: "a"}, -1},
		{api.Val{T: api.TText, N: 1, S: "b"}, api.Val{T: api.TText, N: 2, S: "a"}, -1},
		{api.Val{T: api.TInt, N: 1, S: "b"}, api.Val{T: api.TInt, N: 2, S: "a"}, -1},
		{api.Val{T: api.TInt, N: 1, S: "a"}, api.Val{T: api.TInt, N: 1, S: "b"}, -1},
		{api.Val{T: -1, N: 5, S: "x"}, api.Val{T: 0}, -1},
		{api.Val{T: 255}, api.Val{T: 256}, -1},
		{api.Val{T: 256}, api.Val{T: 300}, -1},
		{api.Val{T: 300, N: 4, S: "y"}, api.Val{T: 300, N: 4, S: "y"}, 0},
	} {
		if got := value.Compare(c.a, c.b); got != c.want {
			t.Errorf("Compare(%+v, %+v) = %d, want %d", c.a, c.b, got, c.want)
		}
		if got := value.Compare(c.b, c.a); got != -c.want {
			t.Errorf("Compare(%+v, %+v) = %d, want %d", c.b, c.a, got, -c.want)
		}
	}
}

func TestCompareIsByTypeThenNumberThenText(t *testing.T) {
	texts := []string{"", "\x00", "a", "a\x00", "ab", "\xff", strings.Repeat("a", 17)}
	slices.Sort(texts)
	numbers := []int64{math.MinInt64, -1, 0, 1, 2, math.MaxInt64}
	types := []int{math.MinInt64, -1, 0, 1, 2, 3, 4, 255, 256, 257, math.MaxInt64}
	var l []api.Val
	for _, x := range types {
		for _, n := range numbers {
			for _, s := range texts {
				l = append(l, api.Val{T: x, N: n, S: s})
			}
		}
	}
	for i, a := range l {
		for j, b := range l {
			if got, want := value.Compare(a, b), rises(i, j); got != want {
				t.Errorf("Compare(%+v, %+v) = %d, want %d", a, b, got, want)
			}
		}
	}
}

func TestCompareOfTextsIsByteByByte(t *testing.T) {
	for _, x := range []int{-7, api.TNone, api.TInt, api.TText, api.TBool, 300} {
		for _, a := range someTexts() {
			for _, b := range someTexts() {
				want := bytes.Compare([]byte(a), []byte(b))
				if got := value.Compare(api.Val{T: x, N: 1, S: a}, api.Val{T: x, N: 1, S: b}); got != want {
					t.Errorf("Compare of T %d, %q and %q = %d, want %d", x, a, b, got, want)
				}
			}
		}
	}
}

// Values are keys of maps: what Compare tells to be alike is one key, and nothing else is.
func TestCompareIsZeroJustOfTheSame(t *testing.T) {
	l := someValues()
	slices.SortFunc(l, value.Compare)
	times := map[api.Val]int{}
	for i, v := range l {
		times[v]++
		if i > 0 && (value.Compare(l[i-1], v) == 0) != (l[i-1] == v) {
			t.Errorf("Compare(%+v, %+v) = 0, or not of the same", l[i-1], v)
		}
	}
	if want := len(someTypes) * len(someNumbers) * len(someTexts()); len(times) != want {
		t.Errorf("%d values, want %d", len(times), want)
	}
}

// P3.2

func TestPutOfValuesWrittenOut(t *testing.T) {
	for _, c := range []struct {
		v    api.Val
		want string
	}{
		{api.Val{}, "\x00"},
		{api.Val{T: api.TInt}, "\x01\x80\x00\x00\x00\x00\x00\x00\x00"},
		{api.Val{T: api.TInt, N: -3}, "\x01\x7f\xff\xff\xff\xff\xff\xff\xfd"},
		{api.Val{T: api.TInt, N: math.MinInt64}, "\x01\x00\x00\x00\x00\x00\x00\x00\x00"},
		{api.Val{T: api.TInt, N: math.MaxInt64}, "\x01\xff\xff\xff\xff\xff\xff\xff\xff"},
		{api.Val{T: api.TText}, "\x02\x00\x01"},
		{api.Val{T: api.TText, S: "ab"}, "\x02ab\x00\x01"},
		{api.Val{T: api.TText, S: "a\x00"}, "\x02a\x00\xff\x00\x01"},
		{api.Val{T: api.TBool}, "\x03\x80\x00\x00\x00\x00\x00\x00\x00"},
		{api.Val{T: api.TBool, N: 1}, "\x03\x80\x00\x00\x00\x00\x00\x00\x01"},
		{api.Val{T: api.TNone, N: 5, S: "x"}, "\x00"},
		{api.Val{T: api.TInt, N: 1, S: "x"}, "\x01\x80\x00\x00\x00\x00\x00\x00\x01"},
		{api.Val{T: api.TText, N: 5, S: strings.Repeat("x", 17)}, "\x02xxxxxxxxxxxxxxxxx\x00\x01"},
		{api.Val{T: api.TBool, N: -1, S: "x"}, "\x03\x7f\xff\xff\xff\xff\xff\xff\xff"},
		{api.Val{T: 4, N: 5, S: "x"}, "\x04"},
		{api.Val{T: 128, N: 5, S: "x"}, "\x80"},
		{api.Val{T: 254, N: 5, S: "x"}, "\xfe"},
		{api.Val{T: 255, N: 5, S: "x"}, "\xff"},
		{api.Val{T: 256, N: 5, S: "x"}, "\xff"},
		{api.Val{T: 257, N: 5, S: "x"}, "\xff"},
		{api.Val{T: 258, N: 5, S: "x"}, "\xff"},
		{api.Val{T: 259, N: 1}, "\xff"},
		{api.Val{T: -1, N: 5, S: "x"}, "\xff"},
		{api.Val{T: -254, N: 5, S: "x"}, "\xff"},
		{api.Val{T: -256}, "\xff"},
		{api.Val{T: math.MinInt64}, "\xff"},
		{api.Val{T: math.MaxInt64}, "\xff"},
	} {
		if got := value.Put(c.v); got != c.want {
			t.Errorf("Put(%+v) = %x, want %x", c.v, got, c.want)
		}
	}
}

func TestPutOfEachByteThatIsNoType(t *testing.T) {
	for x := 4; x < 256; x++ {
		if got, want := value.Put(api.Val{T: x, N: 1, S: "a"}), string([]byte{byte(x)}); got != want {
			t.Errorf("Put of T %d = %x, want %x", x, got, want)
		}
	}
}

func TestPutIsAsTheChapterSays(t *testing.T) {
	for _, v := range someValues() {
		if got, want := value.Put(v), put(v); got != want {
			t.Errorf("Put(%+v) = %x, want %x", v, got, want)
		}
	}
}

func TestTakeOfStringsWrittenOut(t *testing.T) {
	for _, c := range []struct {
		s    string
		v    api.Val
		rest string
	}{
		{"\x00", api.Val{}, ""},
		{"\x00\x00", api.Val{}, "\x00"},
		{"\x00z", api.Val{}, "z"},
		{"\x01\x80\x00\x00\x00\x00\x00\x00\x07", api.Val{T: api.TInt, N: 7}, ""},
		{"\x01\x7f\xff\xff\xff\xff\xff\xff\xfdz", api.Val{T: api.TInt, N: -3}, "z"},
		{"\x01\x00\x00\x00\x00\x00\x00\x00\x00\x00", api.Val{T: api.TInt, N: math.MinInt64}, "\x00"},
		{"\x02\x00\x01", api.Val{T: api.TText}, ""},
		{"\x02ab\x00\x01cd\x00\x01", api.Val{T: api.TText, S: "ab"}, "cd\x00\x01"},
		{"\x02a\x00\xff\x00\x01\xff", api.Val{T: api.TText, S: "a\x00"}, "\xff"},
		{"\x02xxxxxxxxxxxxxxxx\x00\x01x", api.Val{T: api.TText, S: "xxxxxxxxxxxxxxxx"}, "x"},
		{"\x03\x80\x00\x00\x00\x00\x00\x00\x00\x01", api.Val{T: api.TBool}, "\x01"},
		{"\x03\x80\x00\x00\x00\x00\x00\x00\x01", api.Val{T: api.TBool, N: 1}, ""},
	} {
		if v, rest, e := value.Take(c.s); v != c.v || rest != c.rest || e != api.OK {
			t.Errorf("Take(%x) = %+v, %x, %d, want %+v, %x, OK", c.s, v, rest, e, c.v, c.rest)
		}
	}
}

func TestTakeOfStringsThatAreNoValue(t *testing.T) {
	for _, s := range []string{
		"",
		"\x01", "\x01\x80\x00\x00\x00\x00\x00\x00",
		"\x03", "\x03\x80\x00\x00\x00\x00\x00\x00",
		"\x02", "\x02\x00", "\x02a", "\x02a\x00", "\x02ab\x00\xff", "\x02a\x00\x00\x00\x01", "\x02a\x00\x02\x00\x01", "\x02a\x00b\x00\x01",
		"\x02" + strings.Repeat("x", 17) + "\x00\x01",
		"\x02" + strings.Repeat("x", 17) + "\x00\x01rest",
		"\x02" + strings.Repeat("\x00\xff", 17) + "\x00\x01",
		"\x02" + strings.Repeat("x", 100000) + "\x00\x01",
		"\x03\x80\x00\x00\x00\x00\x00\x00\x02", "\x03\x80\x00\x00\x00\x00\x00\x00\x02rest",
		"\x03\x7f\xff\xff\xff\xff\xff\xff\xff", "\x03\x00\x00\x00\x00\x00\x00\x00\x00", "\x03\xff\xff\xff\xff\xff\xff\xff\xff",
		"\x03\x00\x00\x00\x00\x00\x00\x00\x01", "\x03\x81\x00\x00\x00\x00\x00\x00\x01",
	} {
		if v, rest, e := value.Take(s); !isNothing(v, rest, e) {
			t.Errorf("Take(%x) = %+v, %x, %d, want ErrForm alone", s, v, rest, e)
		}
	}
}

func TestTakeOfAFirstByteThatIsNoType(t *testing.T) {
	for x := 4; x < 256; x++ {
		for _, behind := range behinds {
			s := string([]byte{byte(x)}) + behind
			if v, rest, e := value.Take(s); !isNothing(v, rest, e) {
				t.Errorf("Take(%x) = %+v, %x, %d, want ErrForm alone", s, v, rest, e)
			}
		}
	}
}

func TestTakeOfStringsThatAreCutShort(t *testing.T) {
	for _, v := range goodValues() {
		s := put(v)
		for n := range len(s) {
			if got, rest, e := value.Take(s[:n]); !isNothing(got, rest, e) {
				t.Errorf("Take(%x) = %+v, %x, %d, want ErrForm alone", s[:n], got, rest, e)
			}
		}
	}
}

// A value that may not be isn't taken; what its string loses may leave one that may.
func TestTakeOfWhatMayNotBe(t *testing.T) {
	for _, v := range someValues() {
		if may(v) {
			continue
		}
		got, rest, e := value.Take(value.Put(v))
		lost := v
		if v.T == 0 || v.T == 2 {
			lost.N = 0
		}
		if v.T != 2 {
			lost.S = ""
		}
		if may(lost) {
			if got != lost || rest != "" || e != api.OK {
				t.Errorf("Take(Put(%+v)) = %+v, %x, %d, want %+v", v, got, rest, e, lost)
			}
		} else if !isNothing(got, rest, e) {
			t.Errorf("Take(Put(%+v)) = %+v, %x, %d, want ErrForm alone", v, got, rest, e)
		}
	}
}

// P3.3

func TestWhatMayBeIsTakenAsItWasPut(t *testing.T) {
	for _, v := range goodValues() {
		for _, behind := range behinds {
			if got, rest, e := value.Take(value.Put(v) + behind); got != v || rest != behind || e != api.OK {
				t.Errorf("Take(Put(%+v) + %x) = %+v, %x, %d", v, behind, got, rest, e)
			}
		}
	}
}

func TestValuesBehindOneAnotherAreTakenOneByOne(t *testing.T) {
	var all strings.Builder
	for _, v := range goodValues() {
		all.WriteString(value.Put(v))
	}
	rest := all.String()
	for _, want := range goodValues() {
		v, r, e := value.Take(rest)
		if v != want || e != api.OK {
			t.Fatalf("taken: %+v, %d, want %+v", v, e, want)
		}
		rest = r
	}
	if rest != "" {
		t.Errorf("left: %x", rest)
	}
}

func TestTheOneAheadHasTheLowerString(t *testing.T) {
	l := goodValues()
	for i, a := range l {
		if !value.May(a) {
			t.Errorf("May(%+v) = false", a)
		}
		for j, b := range l {
			if got := value.Compare(a, b); got != rises(i, j) {
				t.Errorf("Compare(%+v, %+v) = %d, want %d", a, b, got, rises(i, j))
			}
			if i >= j {
				continue
			}
			for _, x := range behinds {
				for _, y := range behinds {
					if p, q := value.Put(a)+x, value.Put(b)+y; p >= q {
						t.Errorf("%x of %+v isn't below %x of %+v", p, a, q, b)
					}
				}
			}
		}
	}
}

// P1: whatever string comes, what is taken may be, and its Put and the rest are the string.
func FuzzTake(f *testing.F) {
	for _, v := range goodValues() {
		f.Add(value.Put(v))
		f.Add(value.Put(v) + "\x00\x01")
	}
	f.Add("")
	f.Add("\x02" + strings.Repeat("x", 17) + "\x00\x01")
	f.Add("\x03\x80\x00\x00\x00\x00\x00\x00\x02")
	f.Add("\xff")
	f.Fuzz(func(t *testing.T, s string) {
		v, rest, e := value.Take(s)
		if e != api.OK {
			if !isNothing(v, rest, e) {
				t.Errorf("Take(%x) = %+v, %x, %d, want ErrForm alone", s, v, rest, e)
			}
			return
		}
		if !may(v) || put(v)+rest != s {
			t.Errorf("Take(%x) = %+v, %x", s, v, rest)
		}
	})
}

// P1: whatever values come, they are as the chapter's words say.
func FuzzValues(f *testing.F) {
	f.Add(api.TNone, int64(0), "", api.TInt, int64(-3), "")
	f.Add(api.TText, int64(0), "ab", api.TText, int64(0), "abc")
	f.Add(api.TBool, int64(2), "x", 256, int64(7), strings.Repeat("x", 17))
	f.Fuzz(func(t *testing.T, t1 int, n1 int64, s1 string, t2 int, n2 int64, s2 string) {
		a, b := api.Val{T: t1, N: n1, S: s1}, api.Val{T: t2, N: n2, S: s2}
		if value.May(a) != may(a) || value.Put(a) != put(a) {
			t.Errorf("May(%+v) = %v, Put %x", a, value.May(a), value.Put(a))
		}
		c := value.Compare(a, b)
		if c != -value.Compare(b, a) || (c == 0) != (a == b) || c < -1 || c > 1 {
			t.Errorf("Compare(%+v, %+v) = %d", a, b, c)
		}
		if may(a) && may(b) && strings.Compare(value.Put(a), value.Put(b)) != c {
			t.Errorf("Compare(%+v, %+v) = %d, and their strings %x, %x", a, b, c, value.Put(a), value.Put(b))
		}
	})
}

// R4 and R6: the package keeps nothing from call to call, and of the layers calls pack alone.
func TestValueCallsPackAlone(t *testing.T) {
	file, err := parser.ParseFile(token.NewFileSet(), "value.go", nil, 0)
	if err != nil {
		t.Fatal(err)
	}
	for _, i := range file.Imports {
		p := strings.Trim(i.Path.Value, `"`)
		if strings.HasPrefix(p, "ogive/") && p != "ogive/api" && p != "ogive/pack" {
			t.Errorf("value imports %s", p)
		}
	}
	for _, d := range file.Decls {
		if g, ok := d.(*ast.GenDecl); ok && g.Tok == token.VAR {
			t.Error("value has a variable at package level")
		}
	}
}
