package chain_test

import (
	"go/ast"
	"go/parser"
	"go/token"
	"math"
	"math/rand"
	"slices"
	"strings"
	"testing"

	"ogive/api"
	"ogive/chain"
)

// The edges are written out, as no test should hang on another package's number.
const (
	last     = 1099511627776 // 2^40
	least    = math.MinInt64
	greatest = math.MaxInt64
)

// edges are timestamps beside which bits may be lost, or a number may go round.
var edges = []int64{
	least, least + 1, -1 << 62, -last, math.MinInt32 - 1, math.MinInt32, -256, -2, -1,
	0, 1, 2, 255, 256, math.MaxInt32, 1 << 31, math.MaxUint32, 1 << 32, 1<<32 + 1, last - 1, last, last + 1, 1 << 62, greatest - 1, greatest,
}

func done(ts, read int64, val string) chain.Ver {
	return chain.Ver{Ts: ts, Read: read, Val: val, Done: true}
}

func open(ts, read int64, val string) chain.Ver {
	return chain.Ver{Ts: ts, Read: read, Val: val}
}

func row(vers ...chain.Ver) []chain.Ver { return vers }

// mayBe are chains that may be.
func mayBe() [][]chain.Ver {
	return [][]chain.Ver{
		row(done(0, 0, "")),
		row(done(0, 9, "")),
		row(done(0, greatest, "zero")),
		row(done(0, 0, ""), open(1, 1, "one")),
		row(done(0, 9, "zero"), open(12, 12, "twelve")),
		row(done(0, 9, "zero"), done(12, 12, "")),
		row(done(0, 0, ""), done(1, 1, "a"), open(2, 2, "b"), done(3, 3, "c")),
		row(done(0, 3, "zero"), done(5, 7, "five"), open(9, 9, "nine"), done(12, 20, "twelve")),
		row(done(0, 0, ""), open(4, 6, "four"), open(8, 8, "eight"), open(20, 31, "twenty")),
		row(done(1, 1, "a"), done(5, 5, "b"), done(9, 9, "c"), done(12, 12, "d")), // chapter 13's example
		row(done(1, 4, "a"), open(5, 8, "b"), done(9, 11, "c"), open(12, 12, "d")),
		row(done(7, 7, "seven")),
		row(done(7, 30, "seven"), open(8, 90, "")),
		row(done(0, 0, ""), done(1<<31, 1<<31, "a"), open(1<<32, 1<<32+1, "b"), done(last, last, "c")),
		row(done(last, last, "a"), open(last+1, last+1, "b"), done(greatest-1, greatest-1, "c"), open(greatest, greatest, "d")),
		row(done(greatest, greatest, "end")),
	}
}

// mayNotBe are chains that may not be, and why.
func mayNotBe() map[string][]chain.Ver {
	room := row(done(0, 0, ""), done(1, 1, ""))
	return map[string][]chain.Ver{
		"nil":                         nil,
		"empty":                       {},
		"empty, with room":            room[:0],
		"empty, with versions behind": room[1:1],
		"a first Ts of -1":            row(done(-1, -1, "")),
		"a first Ts of -1, read":      row(done(-1, 9, ""), done(3, 3, "")),
		"the least Ts":                row(done(least, least, ""), done(0, 0, "")),
		"two of 0":                    row(done(0, 0, ""), done(0, 0, "")),
		"two of 0, one open":          row(done(0, 0, ""), open(0, 0, "")),
		"two of one Ts in the middle": row(done(0, 0, ""), done(5, 5, ""), done(5, 5, ""), done(9, 9, "")),
		"two of one Ts at the end":    row(done(0, 0, ""), done(5, 5, ""), open(5, 5, "")),
		"two of the greatest":         row(done(0, 0, ""), done(greatest, greatest, ""), open(greatest, greatest, "")),
		"falling at the begin":        row(done(5, 9, ""), done(4, 9, "")),
		"falling in the middle":       row(done(0, 0, ""), done(6, 6, ""), done(5, 9, ""), done(8, 8, "")),
		"falling at the end":          row(done(0, 0, ""), done(5, 5, ""), open(4, 9, "")),
		"falling below 0":             row(done(0, 0, ""), done(-1, 9, "")),
		"falling to the least":        row(done(0, 0, ""), done(5, 5, ""), done(least, 5, "")),
		"a fall of more than 32 bits": row(done(0, 0, ""), done(1<<32+5, 1<<33, ""), done(6, 1<<33, "")),
		"the first Read below 0":      row(done(0, -1, "")),
		"the first Read too low":      row(done(3, 2, ""), done(5, 5, "")),
		"a middle Read too low":       row(done(0, 0, ""), done(5, 4, ""), done(9, 9, "")),
		"the last Read too low":       row(done(0, 0, ""), done(5, 5, ""), open(9, 8, "")),
		"the last Read 0":             row(done(0, 0, ""), open(9, 0, "")),
		"a Read of too few bits":      row(done(0, 0, ""), open(1<<32+5, 7, "")),
		"the least Read":              row(done(0, least, "")),
		"the first one open":          row(open(0, 0, "")),
		"the first one open, others":  row(open(0, 0, ""), done(5, 5, ""), done(9, 9, "")),
		"the first one of 3 open":     row(open(3, 3, ""), done(5, 5, "")),
	}
}

// beside are the edges, and the timestamps of a chain with those beside them.
func beside(c []chain.Ver) []int64 {
	all := slices.Clone(edges)
	for _, v := range c {
		for _, n := range []int64{v.Ts, v.Read} {
			all = append(all, n-1, n, n+1, n+1<<32, n-1<<32, n+last, n|least, -n)
		}
	}
	slices.Sort(all)
	return slices.Compact(all)
}

// handed hands a chain in with versions ahead of it and room behind it, and tells what comes back. R3: nothing of what is handed in changes, neither by the call nor by a writing to all that it told.
func handed(t *testing.T, c []chain.Ver, call func([]chain.Ver) []chain.Ver) []chain.Ver {
	t.Helper()
	var around []chain.Ver
	for i := range int64(len(c) + 7) {
		around = append(around, done(70+i, 90+i, "not of the chain"))
	}
	copy(around[2:], c)
	was := slices.Clone(around)
	told := call(around[2 : 2+len(c)])
	if !slices.Equal(around, was) {
		t.Errorf("what was handed in is %+v now, and was %+v", around, was)
	}
	own := slices.Clone(told)
	for i := range told[:cap(told)] {
		told[:cap(told)][i] = open(-5, -6, "written to")
	}
	if !slices.Equal(around, was) {
		t.Errorf("what is told is shared with what was handed in: %+v", around)
	}
	return own
}

func wantMay(t *testing.T, c []chain.Ver, want bool) {
	t.Helper()
	handed(t, c, func(c []chain.Ver) []chain.Ver {
		if got := chain.May(c); got != want {
			t.Errorf("May(%+v) = %t", c, got)
		}
		return nil
	})
}

func wantLook(t *testing.T, c []chain.Ver, ts int64, want int) {
	t.Helper()
	handed(t, c, func(c []chain.Ver) []chain.Ver {
		if got := chain.Look(c, ts); got != want {
			t.Errorf("Look(%+v, %d) = %d, not %d", c, ts, got, want)
		}
		return nil
	})
}

func wantRead(t *testing.T, c []chain.Ver, ts int64, want []chain.Ver, seen chain.Ver) {
	t.Helper()
	got := handed(t, c, func(c []chain.Ver) []chain.Ver {
		told, v := chain.Read(c, ts)
		if v != seen {
			t.Errorf("Read(%+v, %d) saw %+v, not %+v", c, ts, v, seen)
		}
		return told
	})
	if !slices.Equal(got, want) {
		t.Errorf("Read(%+v, %d) = %+v, not %+v", c, ts, got, want)
	}
}

func wantWrite(t *testing.T, c []chain.Ver, ts int64, val string, want []chain.Ver, why api.Errno) {
	t.Helper()
	got := handed(t, c, func(c []chain.Ver) []chain.Ver {
		told, e := chain.Write(c, ts, val)
		if e != why {
			t.Errorf("Write(%+v, %d, %q): %d, not %d", c, ts, val, e, why)
		}
		return told
	})
	if !slices.Equal(got, want) {
		t.Errorf("Write(%+v, %d, %q) = %+v, not %+v", c, ts, val, got, want)
	}
}

func wantCommit(t *testing.T, c []chain.Ver, ts int64, want []chain.Ver) {
	t.Helper()
	got := handed(t, c, func(c []chain.Ver) []chain.Ver { return chain.Commit(c, ts) })
	if !slices.Equal(got, want) {
		t.Errorf("Commit(%+v, %d) = %+v, not %+v", c, ts, got, want)
	}
}

func wantAbort(t *testing.T, c []chain.Ver, ts int64, want []chain.Ver) {
	t.Helper()
	got := handed(t, c, func(c []chain.Ver) []chain.Ver { return chain.Abort(c, ts) })
	if !slices.Equal(got, want) {
		t.Errorf("Abort(%+v, %d) = %+v, not %+v", c, ts, got, want)
	}
}

// What follows is the chapter in its own words, with no thought of cost: a chain is made anew, version by version.

func plainMay(c []chain.Ver) bool {
	for i, v := range c {
		if v.Ts < 0 || v.Read < v.Ts {
			return false
		}
		for _, before := range c[:i] {
			if before.Ts >= v.Ts {
				return false
			}
		}
	}
	return len(c) > 0 && c[0].Done
}

func plainLook(c []chain.Ver, ts int64) int {
	place := -1
	for i, v := range c {
		if v.Ts <= ts && plainMay(c) {
			place = i
		}
	}
	return place
}

func plainRead(c []chain.Ver, ts int64) ([]chain.Ver, chain.Ver) {
	var all []chain.Ver
	var seen chain.Ver
	for i, v := range c {
		if i == plainLook(c, ts) {
			if ts > v.Read {
				v.Read = ts
			}
			seen = v
		}
		all = append(all, v)
	}
	return all, seen
}

func plainWrite(c []chain.Ver, ts int64, val string) ([]chain.Ver, api.Errno) {
	at := plainLook(c, ts)
	if at == -1 || c[at].Read > ts || c[at].Done && c[at].Ts == ts {
		return c, api.ErrLate
	}
	var all []chain.Ver
	for i, v := range c {
		if i == at && v.Ts == ts {
			v.Val = val
		}
		all = append(all, v)
		if i == at && v.Ts != ts {
			all = append(all, chain.Ver{Ts: ts, Read: ts, Val: val})
		}
	}
	return all, api.OK
}

func plainCommit(c []chain.Ver, ts int64) []chain.Ver {
	var all []chain.Ver
	for _, v := range c {
		v.Done = v.Done || v.Ts == ts && plainMay(c)
		all = append(all, v)
	}
	return all
}

func plainAbort(c []chain.Ver, ts int64) []chain.Ver {
	var all []chain.Ver
	for _, v := range c {
		if v.Ts != ts || v.Done || !plainMay(c) {
			all = append(all, v)
		}
	}
	return all
}

// wantPlain holds all calls against the chapter's words, and P10.5: what may be stays so.
func wantPlain(t *testing.T, c []chain.Ver, ts int64, val string) {
	t.Helper()
	wantLook(t, c, ts, plainLook(c, ts))
	read, seen := plainRead(c, ts)
	wantRead(t, c, ts, read, seen)
	written, e := plainWrite(c, ts, val)
	wantWrite(t, c, ts, val, written, e)
	wantCommit(t, c, ts, plainCommit(c, ts))
	wantAbort(t, c, ts, plainAbort(c, ts))
	wantStays(t, c, ts, val)
}

// wantStays asks May of what is told itself, not of what it should be.
func wantStays(t *testing.T, c []chain.Ver, ts int64, val string) {
	t.Helper()
	may := chain.May(c)
	read, _ := chain.Read(c, ts)
	written, _ := chain.Write(c, ts, val)
	for i, told := range [][]chain.Ver{read, written, chain.Commit(c, ts), chain.Abort(c, ts)} {
		if chain.May(told) != may || plainMay(told) != may {
			t.Errorf("call %d of %d: May(%+v) = %t, and is %t of %+v", i, ts, c, may, chain.May(told), told)
		}
	}
}

// P10.1: Fresh.

func TestFresh(t *testing.T) {
	want := chain.Ver{Ts: 0, Read: 0, Val: "", Done: true}
	if c := chain.Fresh(); len(c) != 1 || c[0] != want {
		t.Errorf("Fresh() = %+v", c)
	}
	wantMay(t, chain.Fresh(), true)
	wantLook(t, chain.Fresh(), 0, 0)
	wantLook(t, chain.Fresh(), greatest, 0)
	wantLook(t, chain.Fresh(), -1, -1)
}

// R3: each is the caller's own.
func TestFreshIsTheCallersOwn(t *testing.T) {
	one, two := chain.Fresh(), chain.Fresh()
	for i := range one[:cap(one)] {
		one[:cap(one)][i] = open(3, 4, "written to")
	}
	for _, c := range [][]chain.Ver{two, chain.Fresh()} {
		if len(c) != 1 || c[0] != done(0, 0, "") {
			t.Errorf("Fresh() is %+v now", c)
		}
	}
}

// P10.1: May.

func TestMayOfChainsThatMayBe(t *testing.T) {
	for _, c := range mayBe() {
		wantMay(t, c, true)
	}
}

func TestMayOfChainsThatMayNotBe(t *testing.T) {
	for why, c := range mayNotBe() {
		t.Run(why, func(t *testing.T) { wantMay(t, c, false) })
	}
}

// P10.1: one number, or one word, of each version of each chain is turned to each edge.
func TestMayOfChainsWithOneThingTurned(t *testing.T) {
	for _, c := range mayBe() {
		for i := range c {
			for _, n := range beside(c) {
				turned := slices.Clone(c)
				turned[i].Ts = n
				wantMay(t, turned, plainMay(turned))
				turned = slices.Clone(c)
				turned[i].Read = n
				wantMay(t, turned, n >= c[i].Ts)
			}
			turned := slices.Clone(c)
			turned[i].Done = !turned[i].Done
			wantMay(t, turned, i > 0)
			turned[i].Val += "more"
			wantMay(t, turned, i > 0)
		}
	}
}

// P10.1: Look.

func TestLookAsWrittenOut(t *testing.T) {
	for _, x := range []struct {
		c     []chain.Ver
		ts    int64
		place int
	}{
		{row(done(0, 9, "")), 5, 0},
		{row(done(0, 9, ""), open(12, 12, "y")), 11, 0},
		{row(done(0, 9, ""), open(12, 12, "y")), 12, 1},
		{row(done(0, 9, ""), open(12, 12, "y")), 13, 1},
		{row(done(1, 1, ""), done(5, 5, ""), done(9, 9, ""), done(12, 12, "")), 0, -1},
		{row(done(1, 1, ""), done(5, 5, ""), done(9, 9, ""), done(12, 12, "")), 1, 0},
		{row(done(1, 1, ""), done(5, 5, ""), done(9, 9, ""), done(12, 12, "")), 4, 0},
		{row(done(1, 1, ""), done(5, 5, ""), done(9, 9, ""), done(12, 12, "")), 5, 1},
		{row(done(1, 1, ""), done(5, 5, ""), done(9, 9, ""), done(12, 12, "")), 10, 2},
		{row(done(1, 1, ""), done(5, 5, ""), done(9, 9, ""), done(12, 12, "")), 12, 3},
		{row(done(0, 0, ""), open(1, 1, ""), open(2, 2, "")), 1, 1},
		{row(done(0, greatest, ""), open(1, greatest, "")), 1, 1},
	} {
		wantLook(t, x.c, x.ts, x.place)
	}
}

func TestLookAtAndBesideEachVersion(t *testing.T) {
	for _, c := range mayBe() {
		wantLook(t, c, least, -1)
		wantLook(t, c, -1, -1)
		wantLook(t, c, greatest, len(c)-1)
		for i, v := range c {
			wantLook(t, c, v.Ts, i)
			wantLook(t, c, v.Ts-1, i-1)
			if next := i + 1; next == len(c) && v.Ts < greatest || next < len(c) && v.Ts+1 < c[next].Ts {
				wantLook(t, c, v.Ts+1, i)
			}
		}
	}
}

func TestLookOfChainsThatMayNotBe(t *testing.T) {
	for why, c := range mayNotBe() {
		t.Run(why, func(t *testing.T) {
			for _, ts := range beside(c) {
				wantLook(t, c, ts, -1)
			}
		})
	}
}

// P10.2: Read.

func TestReadAsWrittenOut(t *testing.T) {
	four := row(done(0, 3, "zero"), done(5, 7, "five"), open(9, 9, "nine"), done(12, 20, "twelve"))
	with := func(at int, read int64) []chain.Ver {
		c := slices.Clone(four)
		c[at].Read = read
		return c
	}
	wantRead(t, chain.Fresh(), 9, row(done(0, 9, "")), done(0, 9, ""))
	wantRead(t, four, 0, four, done(0, 3, "zero"))
	wantRead(t, four, 2, four, done(0, 3, "zero"))
	wantRead(t, four, 3, four, done(0, 3, "zero"))
	wantRead(t, four, 4, with(0, 4), done(0, 4, "zero"))
	wantRead(t, four, 5, four, done(5, 7, "five"))
	wantRead(t, four, 7, four, done(5, 7, "five"))
	wantRead(t, four, 8, with(1, 8), done(5, 8, "five"))
	wantRead(t, four, 9, four, open(9, 9, "nine"))
	wantRead(t, four, 11, with(2, 11), open(9, 11, "nine"))
	wantRead(t, four, 12, four, done(12, 20, "twelve"))
	wantRead(t, four, 20, four, done(12, 20, "twelve"))
	wantRead(t, four, 21, with(3, 21), done(12, 21, "twelve"))
	wantRead(t, four, greatest, with(3, greatest), done(12, greatest, "twelve"))
	wantRead(t, four, -1, four, chain.Ver{})
	wantRead(t, four, least, four, chain.Ver{})
}

// P10.2: a timestamp below the first version sees none.
func TestReadBelowTheFirstVersion(t *testing.T) {
	c := row(done(7, 7, "seven"), open(9, 9, "nine"))
	for _, ts := range []int64{6, 1, 0, -1, -7, least} {
		wantRead(t, c, ts, c, chain.Ver{})
	}
	wantRead(t, c, 7, c, done(7, 7, "seven"))
	wantRead(t, c, 8, row(done(7, 8, "seven"), open(9, 9, "nine")), done(7, 8, "seven"))
}

// P10.2: read by several, a version keeps the greatest.
func TestReadBySeveral(t *testing.T) {
	c := chain.Fresh()
	for _, x := range []struct{ ts, read int64 }{{4, 4}, {2, 4}, {4, 4}, {9, 9}, {0, 9}, {8, 9}, {last, last}, {10, last}} {
		wantRead(t, c, x.ts, row(done(0, x.read, "")), done(0, x.read, ""))
		c, _ = chain.Read(c, x.ts)
	}
}

// P10.2: Write.

func TestWriteAsWrittenOut(t *testing.T) {
	zero, four, nine, twelve := done(0, 3, "zero"), done(4, 6, "four"), open(9, 9, "nine"), done(12, 20, "twelve")
	c := row(zero, four, nine, twelve)
	wantWrite(t, c, 3, "x", row(zero, open(3, 3, "x"), four, nine, twelve), api.OK)
	wantWrite(t, c, 6, "x", row(zero, four, open(6, 6, "x"), nine, twelve), api.OK)
	wantWrite(t, c, 7, "x", row(zero, four, open(7, 7, "x"), nine, twelve), api.OK)
	wantWrite(t, c, 8, "", row(zero, four, open(8, 8, ""), nine, twelve), api.OK)
	wantWrite(t, c, 9, "x", row(zero, four, open(9, 9, "x"), twelve), api.OK)
	wantWrite(t, c, 9, "", row(zero, four, open(9, 9, ""), twelve), api.OK)
	wantWrite(t, c, 10, "x", row(zero, four, nine, open(10, 10, "x"), twelve), api.OK)
	wantWrite(t, c, 11, "x", row(zero, four, nine, open(11, 11, "x"), twelve), api.OK)
	wantWrite(t, c, 20, "x", row(zero, four, nine, twelve, open(20, 20, "x")), api.OK)
	wantWrite(t, c, 21, "x", row(zero, four, nine, twelve, open(21, 21, "x")), api.OK)
	wantWrite(t, c, greatest, "x", row(zero, four, nine, twelve, open(greatest, greatest, "x")), api.OK)
	for _, late := range []int64{least, -1, 0, 1, 2, 4, 5, 12, 13, 19} {
		wantWrite(t, c, late, "x", c, api.ErrLate)
		wantWrite(t, c, late, "", c, api.ErrLate)
	}
}

func TestWriteToAFreshChain(t *testing.T) {
	for _, ts := range edges {
		if ts < 1 {
			wantWrite(t, chain.Fresh(), ts, "x", chain.Fresh(), api.ErrLate)
			continue
		}
		wantWrite(t, chain.Fresh(), ts, "x", row(done(0, 0, ""), open(ts, ts, "x")), api.OK)
	}
}

// P10.2: one's own version, not committed, is written anew, unless one above it read that.
func TestWriteAnew(t *testing.T) {
	c, e := chain.Write(chain.Fresh(), 5, "a")
	for _, val := range []string{"b", "", "a longer one", "\x00", "b"} {
		wantWrite(t, c, 5, val, row(done(0, 0, ""), open(5, 5, val)), api.OK)
		if c, e = chain.Write(c, 5, val); e != api.OK {
			t.Fatal(e)
		}
	}
	own, _ := chain.Read(c, 5)
	wantWrite(t, own, 5, "c", row(done(0, 0, ""), open(5, 5, "c")), api.OK)
	below, _ := chain.Read(c, 4)
	wantWrite(t, below, 5, "c", row(done(0, 4, ""), open(5, 5, "c")), api.OK)
	above, _ := chain.Read(c, 6)
	wantWrite(t, above, 5, "c", row(done(0, 0, ""), open(5, 6, "b")), api.ErrLate)
	wantWrite(t, chain.Commit(c, 5), 5, "c", row(done(0, 0, ""), done(5, 5, "b")), api.ErrLate)
}

// P10.2: a version of 0 is the first one, so it is committed, and a write of 0 is late.
func TestWriteOfZero(t *testing.T) {
	for _, c := range mayBe() {
		wantWrite(t, c, 0, "x", c, api.ErrLate)
	}
}

// P10.2: below the first version nobody writes.
func TestWriteBelowTheFirstVersion(t *testing.T) {
	c := row(done(7, 7, "seven"), open(9, 9, "nine"))
	for _, ts := range []int64{6, 1, 0, -1, -7, least} {
		wantWrite(t, c, ts, "x", c, api.ErrLate)
	}
	wantWrite(t, c, 7, "x", c, api.ErrLate)
	wantWrite(t, c, 8, "x", row(done(7, 7, "seven"), open(8, 8, "x"), open(9, 9, "nine")), api.OK)
}

// P10.3: Commit and Abort.

func TestCommitAndAbortAsWrittenOut(t *testing.T) {
	zero, four, nine, twelve := done(0, 3, "zero"), done(4, 6, "four"), open(9, 10, "nine"), open(12, 20, "twelve")
	c := row(zero, four, nine, twelve)
	wantCommit(t, c, 9, row(zero, four, done(9, 10, "nine"), twelve))
	wantCommit(t, c, 12, row(zero, four, nine, done(12, 20, "twelve")))
	wantAbort(t, c, 9, row(zero, four, twelve))
	wantAbort(t, c, 12, row(zero, four, nine))
	for _, ts := range []int64{least, -9, -1, 0, 1, 3, 4, 5, 8, 10, 11, 13, 20, 9 + 1<<32, 12 + last, 9 | least, greatest} {
		wantCommit(t, c, ts, c)
		wantAbort(t, c, ts, c)
	}
	both := row(zero, four, done(9, 10, "nine"), done(12, 20, "twelve"))
	for _, ts := range []int64{0, 4, 9, 12} {
		wantCommit(t, both, ts, both)
		wantAbort(t, both, ts, both)
	}
}

// P10.3: all but the first one are aborted, or committed, one by one and in any order.
func TestCommitAndAbortOfAll(t *testing.T) {
	c := row(done(0, 0, ""), open(4, 6, "four"), open(8, 8, "eight"), open(20, 31, "twenty"))
	for _, order := range [][]int64{{4, 8, 20}, {4, 20, 8}, {8, 4, 20}, {8, 20, 4}, {20, 4, 8}, {20, 8, 4}} {
		committed, aborted := c, c
		for _, ts := range order {
			wantCommit(t, committed, ts, plainCommit(committed, ts))
			wantAbort(t, aborted, ts, plainAbort(aborted, ts))
			committed, aborted = chain.Commit(committed, ts), chain.Abort(aborted, ts)
		}
		if want := row(done(0, 0, ""), done(4, 6, "four"), done(8, 8, "eight"), done(20, 31, "twenty")); !slices.Equal(committed, want) {
			t.Errorf("committed: %+v", committed)
		}
		if want := row(done(0, 0, "")); !slices.Equal(aborted, want) {
			t.Errorf("aborted: %+v", aborted)
		}
	}
}

// P10.2 and P10.3: of a chain that may not be each call tells it as it is.
func TestCallsOfChainsThatMayNotBe(t *testing.T) {
	for why, c := range mayNotBe() {
		t.Run(why, func(t *testing.T) {
			for _, ts := range beside(c) {
				wantRead(t, c, ts, c, chain.Ver{})
				wantWrite(t, c, ts, "x", c, api.ErrLate)
				wantCommit(t, c, ts, c)
				wantAbort(t, c, ts, c)
			}
		})
	}
}

// P10.1 to P10.3 and P10.5, at whatever timestamps.
func TestCallsOfChainsThatMayBe(t *testing.T) {
	for _, c := range mayBe() {
		for _, ts := range beside(c) {
			wantPlain(t, c, ts, "x")
		}
	}
}

// P10.1 to P10.3 and P10.5: every chain of few versions of small numbers, those that may not be among them.
func TestEveryShortChain(t *testing.T) {
	var vers []chain.Ver
	for ts := int64(-1); ts <= 2; ts++ {
		for read := int64(-1); read <= 3; read++ {
			vers = append(vers, done(ts, read, "was"), open(ts, read, "was"))
		}
	}
	longest := [][]chain.Ver{nil}
	chains := slices.Clone(longest)
	for range 3 {
		var longer [][]chain.Ver
		for _, c := range longest {
			for _, v := range vers {
				longer = append(longer, append(slices.Clone(c), v))
			}
		}
		longest = longer
		chains = append(chains, longer...)
	}
	for _, c := range chains {
		wantMay(t, c, plainMay(c))
		from, to := int64(-2), int64(4)
		if len(c) == 3 && !plainMay(c) {
			from, to = 2, 2 // most chains are such ones, and no timestamp sees anything there
		}
		for ts := from; ts <= to && !t.Failed(); ts++ {
			wantPlain(t, c, ts, "is")
		}
	}
}

// P10.4: the chapter's example.
func TestReadBy9(t *testing.T) {
	c, v := chain.Read(chain.Fresh(), 9)
	if v != done(0, 9, "") {
		t.Errorf("read: %+v", v)
	}
	wantWrite(t, c, 5, "x", row(done(0, 9, "")), api.ErrLate)
	wantWrite(t, c, 8, "x", row(done(0, 9, "")), api.ErrLate)
	wantWrite(t, c, 9, "x", row(done(0, 9, ""), open(9, 9, "x")), api.OK)
	wantWrite(t, c, 12, "x", row(done(0, 9, ""), open(12, 12, "x")), api.OK)
}

// A story is a chain, and which version each timestamp that read there was told.
type story struct {
	c    []chain.Ver
	told map[int64]chain.Ver
}

func newStory(c []chain.Ver) *story {
	return &story{c: c, told: map[int64]chain.Ver{}}
}

// step does one call, holds it against the chapter's words, and lets those be forgotten whose version its writer has changed: by P10.4 there are no others.
func (s *story) step(t *testing.T, kind int, ts int64, val string) {
	t.Helper()
	was := slices.Clone(s.c)
	now, want := s.c, s.c
	switch kind {
	case 0:
		var v chain.Ver
		now, v = chain.Read(s.c, ts)
		want, _ = plainRead(s.c, ts)
		if v != (chain.Ver{}) {
			s.told[ts] = v
		}
	case 1:
		var e, why api.Errno
		now, e = chain.Write(s.c, ts, val)
		want, why = plainWrite(s.c, ts, val)
		if e != why {
			t.Errorf("Write(%+v, %d): %d, not %d", s.c, ts, e, why)
		}
		if e == api.OK {
			delete(s.told, ts)
		}
	case 2:
		now, want = chain.Commit(s.c, ts), plainCommit(s.c, ts)
	default:
		now, want = chain.Abort(s.c, ts), plainAbort(s.c, ts)
		for reader, v := range s.told {
			if v.Ts == ts && len(now) < len(s.c) {
				delete(s.told, reader)
			}
		}
	}
	if !slices.Equal(s.c, was) || !slices.Equal(now, want) || !chain.May(now) {
		t.Errorf("call %d of %d: %+v, of %+v, is %+v, and should be %+v", kind, ts, s.c, was, now, want)
	}
	s.c = now
	s.wantTold(t)
}

// wantTold is P10.4: who read is told it again, and nobody writes between.
func (s *story) wantTold(t *testing.T) {
	t.Helper()
	for reader, was := range s.told {
		_, now := chain.Read(s.c, reader)
		if now.Ts != was.Ts || now.Val != was.Val || now.Read < reader || was.Done && !now.Done {
			t.Errorf("%d read %+v, and reads %+v now, of %+v", reader, was, now, s.c)
		}
		for _, ts := range []int64{was.Ts, was.Ts + 1, reader - 1} {
			if was.Ts <= ts && ts < reader {
				if _, e := chain.Write(s.c, ts, "between"); e != api.ErrLate {
					t.Errorf("%d writes below %d, that read %+v of %+v", ts, reader, was, s.c)
				}
			}
		}
	}
}

// P10.4 and P10.5: every row of five calls of three timestamps.
func TestEveryRowOfCalls(t *testing.T) {
	const calls, long = 12, 5
	rows := 1
	for range long {
		rows *= calls
	}
	for n := range rows {
		s := newStory(chain.Fresh())
		for left, i := n, 0; i < long && !t.Failed(); left, i = left/calls, i+1 {
			s.step(t, left%4, int64(left%calls/4+1), string(rune('a'+i)))
		}
	}
}

// P10.4 and P10.5: whatever is called, in whatever order, of whatever chain.
func TestWhateverIsCalled(t *testing.T) {
	random := rand.New(rand.NewSource(1))
	for _, c := range mayBe() {
		for range 60 {
			s := newStory(c)
			for i := range 60 {
				ts := int64(random.Intn(40)) - 1
				if v := s.c[random.Intn(len(s.c))]; random.Intn(3) == 0 {
					ts = v.Ts + int64(random.Intn(3)) - 1
				}
				if random.Intn(20) == 0 {
					ts = edges[random.Intn(len(edges))]
				}
				s.step(t, random.Intn(4), ts, string(rune('a'+i)))
			}
		}
	}
}

// P10.4: what was written, but never by whom it was read, may be aborted or written anew, and is told so then.
func TestUnlessWhoWroteIt(t *testing.T) {
	c, _ := chain.Write(chain.Fresh(), 5, "a")
	c, v := chain.Read(c, 9)
	if v != open(5, 9, "a") {
		t.Errorf("9 read %+v", v)
	}
	c = chain.Abort(c, 5)
	wantRead(t, c, 9, row(done(0, 9, "")), done(0, 9, ""))
	c, _ = chain.Write(c, 5, "b")
	c, v = chain.Read(c, 5)
	if v != open(5, 5, "b") {
		t.Errorf("5 read %+v", v)
	}
	c, _ = chain.Write(c, 5, "c")
	wantRead(t, c, 5, row(done(0, 0, ""), open(5, 5, "c")), open(5, 5, "c"))
}

// R3: what is told is handed in again, with the room that it has, to call after call; none changes what another one tells, nor what it was handed.
func TestNoCallChangesWhatAnEarlierOneTold(t *testing.T) {
	told := [][]chain.Ver{chain.Fresh()}
	for _, ts := range []int64{4, 8, 12, 6, 20} {
		c, e := chain.Write(told[len(told)-1], ts, "x")
		if e != api.OK {
			t.Fatal(e)
		}
		told = append(told, c)
	}
	for _, c := range slices.Clone(told) {
		roomy := append(make([]chain.Ver, 0, len(c)+9), c...)
		for _, from := range [][]chain.Ver{c, roomy} {
			for ts := int64(0); ts < 22; ts++ {
				read, _ := chain.Read(from, ts)
				written, _ := chain.Write(from, ts, "y")
				told = append(told, read, written, chain.Commit(from, ts), chain.Abort(from, ts))
			}
		}
	}
	was := make([][]chain.Ver, len(told))
	for i, c := range told {
		was[i] = slices.Clone(c)
	}
	for i, c := range told {
		for _, ts := range []int64{0, 5, 6, 30} {
			chain.Read(c, ts)
			chain.Write(c, ts, "z")
			chain.Commit(c, ts)
			chain.Abort(c, ts)
		}
		for j := range c[:cap(c)] {
			c[:cap(c)][j] = open(-5, -6, "written to")
		}
		for j := i + 1; j < len(told); j++ {
			if !slices.Equal(told[j], was[j]) {
				t.Fatalf("what call %d told is %+v now, and was %+v", j, told[j], was[j])
			}
		}
	}
}

// P1: whatever is asked of whatever chain.
func FuzzChain(f *testing.F) {
	f.Add(int64(9), "x", []byte("\x00\x00\x01\x05\x07\x01\x09\x09\x00\x0c\x14\x01"))
	f.Add(int64(5), "", []byte("\x00\x09\x01\x0c\x0c\x00"))
	f.Add(int64(least), "x", []byte("\xff\xff\x01"))
	f.Add(int64(greatest), "x", []byte("\x00\x00\x03\x05\x05\x02"))
	f.Add(int64(0), "x", []byte{})
	f.Fuzz(func(t *testing.T, ts int64, val string, b []byte) {
		var c []chain.Ver
		for ; len(b) >= 3 && len(c) < 40; b = b[3:] {
			v := chain.Ver{Ts: int64(int8(b[0])), Read: int64(int8(b[1])), Val: val[:int(b[0])%(len(val)+1)], Done: b[2]&1 != 0}
			if b[2]&2 != 0 {
				v.Ts, v.Read = v.Ts<<32, v.Read<<32
			}
			c = append(c, v)
		}
		wantMay(t, c, plainMay(c))
		for _, at := range append(beside(c), ts) {
			wantPlain(t, c, at, val)
		}
	})
}

func parsed(t *testing.T) *ast.File {
	t.Helper()
	file, err := parser.ParseFile(token.NewFileSet(), "chain.go", nil, 0)
	if err != nil {
		t.Fatal(err)
	}
	return file
}

// Ways: a version is put in by a slice cut with three indices, behind which it is appended.
func TestAVersionIsPutInByThreeIndices(t *testing.T) {
	put := false
	for _, d := range parsed(t).Decls {
		f, ok := d.(*ast.FuncDecl)
		if !ok || f.Name.Name != "Write" {
			continue
		}
		ast.Inspect(f, func(n ast.Node) bool {
			call, ok := n.(*ast.CallExpr)
			if !ok || len(call.Args) < 2 {
				return true
			}
			name, ok := call.Fun.(*ast.Ident)
			cut, isCut := call.Args[0].(*ast.SliceExpr)
			put = put || ok && name.Name == "append" && isCut && cut.Slice3
			return true
		})
	}
	if !put {
		t.Error("Write appends to no slice cut with three indices")
	}
}

// R4 and R6: the package keeps nothing from call to call, and calls no layer.
func TestChainCallsNoLayer(t *testing.T) {
	file := parsed(t)
	for _, i := range file.Imports {
		p := strings.Trim(i.Path.Value, `"`)
		if strings.HasPrefix(p, "ogive/") && p != "ogive/api" {
			t.Errorf("chain imports %s", p)
		}
	}
	for _, d := range file.Decls {
		if g, ok := d.(*ast.GenDecl); ok && g.Tok == token.VAR {
			t.Error("chain has a variable at package level")
		}
	}
}
