package cells_test

import (
	"go/ast"
	"go/parser"
	"go/token"
	"math"
	"math/rand"
	"slices"
	"strings"
	"testing"

	"ogive/api"
	"ogive/cells"
	"ogive/chain"
)

// The edges are written out, as no test should hang on another package's number.
const (
	last     = 1099511627776 // 2^40
	least    = math.MinInt64
	greatest = math.MaxInt64
)

// edges are timestamps beside which bits may be lost, or a number may go round.
var edges = []int64{
	least, least + 1, -last, math.MinInt32, -256, -2, -1,
	0, 1, 2, 255, 256, math.MaxInt32, 1 << 31, math.MaxUint32, 1 << 32, 1<<32 + 1, last - 1, last, last + 1, 1 << 62, greatest - 1, greatest,
}

// numbers are what a key's Kind, A and B are put together of.
var numbers = []int{math.MinInt, -1 << 32, -256, -2, -1, 0, 1, 2, 9, 10, 255, 256, 1<<32 + 1, math.MaxInt}

func key(kind, a, b int) api.Key { return api.Key{Kind: kind, A: a, B: b} }

func done(ts, read int64, val string) chain.Ver {
	return chain.Ver{Ts: ts, Read: read, Val: val, Done: true}
}

func open(ts, read int64, val string) chain.Ver {
	return chain.Ver{Ts: ts, Read: read, Val: val}
}

func row(vers ...chain.Ver) []chain.Ver { return vers }

func wrote(k api.Key, v string) api.Write { return api.Write{K: k, V: v} }

func fresh() []chain.Ver { return row(done(0, 0, "")) }

// mayBe are chains that may be.
func mayBe() [][]chain.Ver {
	return [][]chain.Ver{
		fresh(),
		row(done(0, 9, "")),
		row(done(0, greatest, "zero")),
		row(done(0, 0, ""), open(1, 1, "one")),
		row(done(0, 3, "zero"), done(5, 7, "five"), open(9, 9, "nine"), done(12, 20, "twelve")),
		row(done(0, 3, "zero"), open(5, 7, "five"), done(9, 9, ""), open(12, 20, "")),
		row(done(7, 30, "seven"), open(8, 90, "")),
		row(done(last, last, "a"), open(last+1, last+1, "b"), done(greatest-1, greatest-1, "c"), open(greatest, greatest, "d")),
	}
}

// mayNotBe are chains that may not be, and why.
func mayNotBe() map[string][]chain.Ver {
	room := row(done(0, 0, ""), done(1, 1, ""))
	return map[string][]chain.Ver{
		"nil":                nil,
		"empty":              {},
		"empty, with room":   room[:0],
		"a first Ts below 0": row(done(-1, 0, "")),
		"two of one Ts":      row(done(0, 0, ""), done(5, 5, "a"), open(5, 5, "b")),
		"falling":            row(done(0, 0, ""), done(5, 5, "a"), done(4, 9, "b")),
		"a Read too low":     row(done(0, 0, ""), done(5, 4, "a")),
		"the first one open": row(open(0, 0, "a"), done(5, 5, "b")),
	}
}

// A plain is the chapter in its own words, with no thought of cost: keys and their chains stand in the order in which they were said.
type plain struct {
	keys   []api.Key
	chains [][]chain.Ver
}

func plainLess(a, b api.Key) bool {
	if a.Kind != b.Kind {
		return a.Kind < b.Kind
	}
	if a.A != b.A {
		return a.A < b.A
	}
	return a.B < b.B
}

func (p *plain) chain(k api.Key) []chain.Ver {
	if at := slices.Index(p.keys, k); at >= 0 {
		return slices.Clone(p.chains[at])
	}
	return fresh()
}

func (p *plain) set(k api.Key, l []chain.Ver) {
	if at := slices.Index(p.keys, k); at >= 0 {
		p.keys = slices.Delete(p.keys, at, at+1)
		p.chains = slices.Delete(p.chains, at, at+1)
	}
	if chain.May(l) {
		p.keys = append(p.keys, k)
		p.chains = append(p.chains, slices.Clone(l))
	}
}

func (p *plain) read(k api.Key, ts int64) chain.Ver {
	if ts < 0 {
		return chain.Ver{}
	}
	l, v := chain.Read(p.chain(k), ts)
	p.set(k, l)
	return v
}

func (p *plain) write(k api.Key, ts int64, val string) api.Errno {
	if ts < 1 {
		return api.ErrArg
	}
	l, e := chain.Write(p.chain(k), ts, val)
	p.set(k, l)
	return e
}

func (p *plain) commit(ts int64) []api.Write {
	var told []api.Write
	for _, k := range p.order() {
		l := p.chain(k)
		for i, v := range l {
			if v.Ts == ts && !v.Done {
				l[i].Done = true
				told = append(told, wrote(k, v.Val))
			}
		}
		p.set(k, l)
	}
	return told
}

func (p *plain) abort(ts int64) {
	for _, k := range p.order() {
		var left []chain.Ver
		for _, v := range p.chain(k) {
			if v.Ts != ts || v.Done {
				left = append(left, v)
			}
		}
		p.set(k, left)
	}
}

// order puts each key ahead of the first one that it is ahead of.
func (p *plain) order() []api.Key {
	var all []api.Key
	for _, k := range p.keys {
		at := 0
		for at < len(all) && plainLess(all[at], k) {
			at++
		}
		all = slices.Insert(all, at, k)
	}
	return all
}

func (p *plain) newest() []api.Write {
	var told []api.Write
	for _, k := range p.order() {
		val := ""
		for _, v := range p.chain(k) {
			if v.Done {
				val = v.Val
			}
		}
		if val != "" {
			told = append(told, wrote(k, val))
		}
	}
	return told
}

// wantCells asks twice, since asking changes nothing: of all keys that are said, and of others.
func wantCells(t *testing.T, what string, c *cells.Cells, p *plain, others ...api.Key) {
	t.Helper()
	order := p.order()
	for range 2 {
		if got := c.Keys(); !slices.Equal(got, order) {
			t.Errorf("%s: Keys() = %+v, not %+v", what, got, order)
		}
		if got, want := c.Newest(), p.newest(); !slices.Equal(got, want) {
			t.Errorf("%s: Newest() = %+v, not %+v", what, got, want)
		}
		for _, k := range slices.Concat(order, others) {
			if got, want := c.Chain(k), p.chain(k); !slices.Equal(got, want) {
				t.Errorf("%s: Chain(%+v) = %+v, not %+v", what, k, got, want)
			}
		}
	}
}

// A story does each call to cells and to a plain, and holds what both tell against each other.
type story struct {
	c *cells.Cells
	p *plain
}

func newStory() *story { return &story{c: cells.New(), p: &plain{}} }

func (s *story) read(t *testing.T, k api.Key, ts int64) {
	t.Helper()
	if got, want := s.c.Read(k, ts), s.p.read(k, ts); got != want {
		t.Errorf("Read(%+v, %d) = %+v, not %+v", k, ts, got, want)
	}
}

func (s *story) write(t *testing.T, k api.Key, ts int64, val string) api.Errno {
	t.Helper()
	got, want := s.c.Write(k, ts, val), s.p.write(k, ts, val)
	if got != want {
		t.Errorf("Write(%+v, %d, %q) = %d, not %d", k, ts, val, got, want)
	}
	return got
}

func (s *story) commit(t *testing.T, ts int64) []api.Write {
	t.Helper()
	got, want := s.c.Commit(ts), s.p.commit(ts)
	if !slices.Equal(got, want) {
		t.Errorf("Commit(%d) = %+v, not %+v", ts, got, want)
	}
	return got
}

func (s *story) abort(ts int64) {
	s.c.Abort(ts)
	s.p.abort(ts)
}

func (s *story) set(k api.Key, l []chain.Ver) {
	s.c.Set(k, l)
	s.p.set(k, l)
}

func (s *story) same(t *testing.T, what string, others ...api.Key) {
	t.Helper()
	wantCells(t, what, s.c, s.p, others...)
}

// wantChain holds a chain against one that is written out.
func wantChain(t *testing.T, c *cells.Cells, k api.Key, want ...chain.Ver) {
	t.Helper()
	if got := c.Chain(k); !slices.Equal(got, want) {
		t.Errorf("Chain(%+v) = %+v, not %+v", k, got, want)
	}
}

func wantKeys(t *testing.T, c *cells.Cells, want ...api.Key) {
	t.Helper()
	if got := c.Keys(); !slices.Equal(got, want) {
		t.Errorf("Keys() = %+v, not %+v", got, want)
	}
}

func wantNewest(t *testing.T, c *cells.Cells, want ...api.Write) {
	t.Helper()
	if got := c.Newest(); !slices.Equal(got, want) {
		t.Errorf("Newest() = %+v, not %+v", got, want)
	}
}

func wantRead(t *testing.T, c *cells.Cells, k api.Key, ts int64, want chain.Ver) {
	t.Helper()
	if got := c.Read(k, ts); got != want {
		t.Errorf("Read(%+v, %d) = %+v, not %+v", k, ts, got, want)
	}
}

func wantWrite(t *testing.T, c *cells.Cells, k api.Key, ts int64, val string, want api.Errno) {
	t.Helper()
	if got := c.Write(k, ts, val); got != want {
		t.Errorf("Write(%+v, %d, %q) = %d, not %d", k, ts, val, got, want)
	}
}

func wantCommit(t *testing.T, c *cells.Cells, ts int64, want ...api.Write) {
	t.Helper()
	if got := c.Commit(ts); !slices.Equal(got, want) {
		t.Errorf("Commit(%d) = %+v, not %+v", ts, got, want)
	}
}

// edgeKeys are all keys of numbers beside edges.
func edgeKeys() []api.Key {
	var all []api.Key
	for _, kind := range numbers {
		for _, a := range numbers {
			for _, b := range numbers {
				all = append(all, key(kind, a, b))
			}
		}
	}
	return all
}

// P11.1: New.

func TestNewSaysNothing(t *testing.T) {
	c := cells.New()
	wantCells(t, "new", c, &plain{}, edgeKeys()...)
	for _, ts := range edges {
		wantCommit(t, c, ts)
		c.Abort(ts)
	}
	wantCells(t, "behind commits and aborts", c, &plain{}, edgeKeys()...)
}

// P11.1 and R4: each is one of its own.
func TestNewIsAnotherOne(t *testing.T) {
	one, two, k := cells.New(), cells.New(), key(1, 2, 3)
	wantWrite(t, one, k, 3, "x", api.OK)
	wantCells(t, "the other one", two, &plain{}, k)
	wantCells(t, "a later one", cells.New(), &plain{}, k)
	wantWrite(t, two, k, 5, "y", api.OK)
	wantCommit(t, two, 3)
	wantCommit(t, two, 5, wrote(k, "y"))
	wantChain(t, one, k, done(0, 0, ""), open(3, 3, "x"))
}

// P11.1: Less.

func TestLessAsWrittenOut(t *testing.T) {
	for _, x := range []struct{ a, b api.Key }{
		{key(1, 1, 1), key(2, 1, 1)},
		{key(1, 1, 1), key(1, 2, 1)},
		{key(1, 1, 1), key(1, 1, 2)},
		{key(1, 9, 9), key(2, 0, 0)},
		{key(1, 9, 0), key(2, 0, 9)},
		{key(1, 0, 9), key(2, 9, 0)},
		{key(1, 1, 9), key(1, 2, 0)},
		{key(9, 1, 9), key(9, 2, 0)},
		{key(2, 1, 3), key(10, 1, 3)},
		{key(1, 2, 3), key(1, 10, 3)},
		{key(1, 2, 3), key(1, 2, 10)},
		{key(-1, 9, 9), key(0, 0, 0)},
		{key(0, -1, 9), key(0, 0, 0)},
		{key(0, 0, -1), key(0, 0, 0)},
		{key(-2, 9, 9), key(-1, 0, 0)},
		{key(-1, -2, 9), key(-1, -1, -9)},
		{key(math.MinInt, 0, 0), key(math.MaxInt, 0, 0)},
		{key(0, math.MinInt, 0), key(0, math.MaxInt, 0)},
		{key(0, 0, math.MinInt), key(0, 0, math.MaxInt)},
		{key(math.MinInt, 0, 0), key(1, 0, 0)},
		{key(0, math.MinInt, 0), key(0, 1, 0)},
		{key(0, 0, math.MinInt), key(0, 0, 1)},
		{key(1, 9, 9), key(1<<32, 0, 0)},
		{key(0, 1, 9), key(0, 1<<32, 0)},
		{key(0, 0, 1), key(0, 0, 1<<32)},
	} {
		if !cells.Less(x.a, x.b) || cells.Less(x.b, x.a) {
			t.Errorf("Less of %+v and %+v: %t, the other way %t", x.a, x.b, cells.Less(x.a, x.b), cells.Less(x.b, x.a))
		}
	}
}

// P11.1: each of the three is lower, the same and higher.
func TestLessOfAllKeys(t *testing.T) {
	all := edgeKeys()
	random := rand.New(rand.NewSource(1))
	for i, a := range all {
		others := []api.Key{a, all[random.Intn(len(all))], all[random.Intn(len(all))]}
		for _, n := range numbers {
			others = append(others, key(n, a.A, a.B), key(a.Kind, n, a.B), key(a.Kind, a.A, n), key(n, a.B, a.A), key(a.Kind, n, n))
		}
		for _, b := range others {
			if got := cells.Less(a, b); got != plainLess(a, b) {
				t.Errorf("Less(%+v, %+v) = %t", a, b, got)
			}
			if got := cells.Less(b, a); got != plainLess(b, a) {
				t.Errorf("Less(%+v, %+v) = %t", b, a, got)
			}
		}
		// They are put together in order, as numbers are in order.
		if i > 0 && !cells.Less(all[i-1], a) {
			t.Errorf("%+v isn't ahead of %+v", all[i-1], a)
		}
	}
}

// P11.1: Chain.

func TestChainIsWhatWasSaidLast(t *testing.T) {
	c, k := cells.New(), key(4, 3, 2)
	wantChain(t, c, k, done(0, 0, ""))
	c.Read(k, 4)
	wantChain(t, c, k, done(0, 4, ""))
	c.Write(k, 6, "six")
	wantChain(t, c, k, done(0, 4, ""), open(6, 6, "six"))
	c.Read(k, 8)
	wantChain(t, c, k, done(0, 4, ""), open(6, 8, "six"))
	c.Set(k, row(done(1, 2, "one")))
	wantChain(t, c, k, done(1, 2, "one"))
	c.Write(k, 3, "three")
	wantChain(t, c, k, done(1, 2, "one"), open(3, 3, "three"))
	c.Commit(3)
	wantChain(t, c, k, done(1, 2, "one"), done(3, 3, "three"))
	c.Write(k, 5, "five")
	c.Abort(5)
	wantChain(t, c, k, done(1, 2, "one"), done(3, 3, "three"))
	c.Set(k, nil)
	wantChain(t, c, k, done(0, 0, ""))
}

// P11.1: keys that are the same but for one number, or whose numbers stand elsewhere, are others.
func TestChainsOfKeysThatAreAlmostTheSame(t *testing.T) {
	s := newStory()
	keys := []api.Key{
		key(1, 2, 3), key(1, 3, 2), key(2, 1, 3), key(2, 3, 1), key(3, 1, 2), key(3, 2, 1), key(-1, 2, 3), key(1, -2, 3), key(1, 2, -3),
		key(1+256, 2, 3), key(1, 2+256, 3), key(1, 2, 3+256), key(1+1<<32, 2, 3), key(1, 2+1<<32, 3), key(1, 2, 3+1<<32),
		key(12, 3, 0), key(1, 23, 0), key(0, 12, 3), key(0, 1, 23), key(0, 0, 0),
	}
	for i, k := range keys {
		s.set(k, row(done(int64(i), int64(i+3), "of "+string(rune('a'+i)))))
		s.same(t, "one more", keys...)
	}
}

// P11.1: Set.

func TestSetOfChainsThatMayBe(t *testing.T) {
	k, other := key(1, 2, 0), key(1, 2, 1)
	for _, before := range append(mayBe(), nil) {
		for _, l := range mayBe() {
			s := newStory()
			s.set(other, row(done(0, 2, "other")))
			s.set(k, before)
			s.set(k, l)
			wantChain(t, s.c, k, l...)
			wantKeys(t, s.c, k, other)
			s.same(t, "set", key(1, 2, 2))
		}
	}
}

func TestSetOfChainsThatMayNotBe(t *testing.T) {
	k, other := key(1, 2, 0), key(1, 2, 1)
	for why, l := range mayNotBe() {
		t.Run(why, func(t *testing.T) {
			s := newStory()
			s.set(k, l)
			wantKeys(t, s.c)
			wantChain(t, s.c, k, done(0, 0, ""))
			s.set(other, row(done(0, 2, "other"), open(5, 5, "more")))
			for _, before := range mayBe() {
				s.set(k, before)
				wantKeys(t, s.c, k, other)
				s.set(k, l)
				wantKeys(t, s.c, other)
				wantChain(t, s.c, k, done(0, 0, ""))
				s.same(t, "set", k)
			}
			// Nothing of what was said comes back.
			s.set(k, row(done(3, 9, "gone"), open(12, 30, "gone")))
			s.set(k, l)
			wantCommit(t, s.c, 12)
			wantRead(t, s.c, k, 2, done(0, 2, ""))
			wantChain(t, s.c, k, done(0, 2, ""))
			wantKeys(t, s.c, k, other)
		})
	}
}

// P11.1: Keys.

func TestKeysInWhateverOrderTheyCame(t *testing.T) {
	want := []api.Key{key(-1, 5, 5), key(0, 0, 0), key(1, -3, 0), key(1, 1, 9), key(1, 2, 0), key(1, 2, 1), key(1, 10, 0), key(2, 0, 0), key(10, 0, 0)}
	random := rand.New(rand.NewSource(1))
	for range 200 {
		came := slices.Clone(want)
		random.Shuffle(len(came), func(i, j int) { came[i], came[j] = came[j], came[i] })
		c := cells.New()
		for i, k := range slices.Concat(came, came[:4], came) {
			switch (i + random.Intn(2)) % 3 {
			case 0:
				c.Read(k, int64(i))
			case 1:
				c.Write(k, int64(i+1), "x")
			default:
				c.Set(k, row(done(0, 7, "x")))
			}
		}
		wantKeys(t, c, want...)
	}
}

// P11.2: Read.

func TestReadAsWrittenOut(t *testing.T) {
	c, k := cells.New(), key(1, 2, 3)
	wantRead(t, c, k, 0, done(0, 0, ""))
	wantRead(t, c, k, 9, done(0, 9, ""))
	wantRead(t, c, k, 5, done(0, 9, ""))
	wantChain(t, c, k, done(0, 9, ""))
	c.Set(k, row(done(0, 3, "zero"), done(5, 7, "five"), open(9, 9, "nine")))
	wantRead(t, c, k, 4, done(0, 4, "zero"))
	wantRead(t, c, k, 6, done(5, 7, "five"))
	wantRead(t, c, k, 8, done(5, 8, "five"))
	wantRead(t, c, k, greatest, open(9, greatest, "nine"))
	wantChain(t, c, k, done(0, 4, "zero"), done(5, 8, "five"), open(9, greatest, "nine"))
	c.Set(k, row(done(7, 7, "seven")))
	wantRead(t, c, k, 6, chain.Ver{})
	wantChain(t, c, k, done(7, 7, "seven"))
}

// P11.2: a chain is said behind each Read of at least 0, also if that changes nothing.
func TestReadSaysTheChain(t *testing.T) {
	for _, ts := range edges {
		c, k := cells.New(), key(1, 2, 3)
		got := c.Read(k, ts)
		if ts < 0 {
			if got != (chain.Ver{}) {
				t.Errorf("Read of %d: %+v", ts, got)
			}
			wantKeys(t, c)
			wantChain(t, c, k, done(0, 0, ""))
			continue
		}
		if got != done(0, ts, "") {
			t.Errorf("Read of %d: %+v", ts, got)
		}
		wantKeys(t, c, k)
		wantChain(t, c, k, done(0, ts, ""))
	}
}

// P11.2: of a ts below 0 nothing else is done, whatever the chain is.
func TestReadBelowZero(t *testing.T) {
	for _, l := range mayBe() {
		for _, ts := range edges {
			s := newStory()
			s.set(key(1, 0, 0), l)
			for _, k := range []api.Key{key(1, 0, 0), key(1, 0, 1)} {
				s.read(t, k, ts)
				s.same(t, "read", key(1, 0, 1))
			}
		}
	}
}

// P11.2: Write.

func TestWriteAsWrittenOut(t *testing.T) {
	c, k := cells.New(), key(1, 2, 3)
	wantWrite(t, c, k, 5, "five", api.OK)
	wantChain(t, c, k, done(0, 0, ""), open(5, 5, "five"))
	wantWrite(t, c, k, 5, "anew", api.OK)
	wantWrite(t, c, k, 3, "", api.OK)
	wantChain(t, c, k, done(0, 0, ""), open(3, 3, ""), open(5, 5, "anew"))
	wantRead(t, c, k, 9, open(5, 9, "anew"))
	wantWrite(t, c, k, 8, "late", api.ErrLate)
	wantWrite(t, c, k, 5, "late", api.ErrLate)
	wantChain(t, c, k, done(0, 0, ""), open(3, 3, ""), open(5, 9, "anew"))
	wantWrite(t, c, k, 9, "nine", api.OK)
	wantWrite(t, c, k, greatest, "end", api.OK)
	wantChain(t, c, k, done(0, 0, ""), open(3, 3, ""), open(5, 9, "anew"), open(9, 9, "nine"), open(greatest, greatest, "end"))
	for _, ts := range edges {
		if ts < 1 {
			wantWrite(t, c, k, ts, "x", api.ErrArg)
		}
	}
	wantChain(t, c, k, done(0, 0, ""), open(3, 3, ""), open(5, 9, "anew"), open(9, 9, "nine"), open(greatest, greatest, "end"))
}

// P11.2: a chain is said behind each Write of at least 1. (None is late where nothing was said; for the others see TestWriteLate.)
func TestWriteSaysTheChain(t *testing.T) {
	for _, ts := range edges {
		c, k := cells.New(), key(1, 2, 3)
		if ts < 1 {
			wantWrite(t, c, k, ts, "x", api.ErrArg)
			wantKeys(t, c)
			wantChain(t, c, k, done(0, 0, ""))
			continue
		}
		wantWrite(t, c, k, ts, "", api.OK)
		wantKeys(t, c, k)
		wantChain(t, c, k, done(0, 0, ""), open(ts, ts, ""))
	}
}

// P11.2: what is late is told so, and changes nothing.
func TestWriteLate(t *testing.T) {
	for _, l := range mayBe() {
		for _, ts := range edges {
			for _, val := range []string{"", "x"} {
				s := newStory()
				s.set(key(1, 0, 0), l)
				for _, k := range []api.Key{key(1, 0, 0), key(1, 0, 1)} {
					s.write(t, k, ts, val)
					s.same(t, "written", key(1, 0, 1))
				}
			}
		}
	}
	s, k := newStory(), key(1, 0, 0)
	s.read(t, k, 9)
	if e := s.write(t, k, 5, "x"); e != api.ErrLate {
		t.Errorf("5 writes below 9: %d", e)
	}
	wantKeys(t, s.c, k)
	wantChain(t, s.c, k, done(0, 9, ""))
	s.set(k, row(done(7, 7, "seven")))
	if e := s.write(t, k, 6, "x"); e != api.ErrLate {
		t.Errorf("6 writes below the first version: %d", e)
	}
	wantChain(t, s.c, k, done(7, 7, "seven"))
}

// P11.2: a chain that is the same as chain.Fresh's is said, too, and stays so behind an abort.
func TestChainsLikeFreshAreSaid(t *testing.T) {
	c := cells.New()
	read, written, set, late := key(4, 0, 0), key(3, 0, 0), key(2, 0, 0), key(1, 0, 0)
	c.Read(read, 0)
	c.Write(written, 7, "x")
	c.Abort(7)
	c.Set(set, chain.Fresh())
	c.Set(late, row(done(3, 3, "")))
	wantWrite(t, c, late, 2, "x", api.ErrLate)
	wantKeys(t, c, late, set, written, read)
	for _, k := range []api.Key{set, written, read} {
		wantChain(t, c, k, done(0, 0, ""))
	}
	wantNewest(t, c)
}

// P11.3: Commit.

func TestCommitAsWrittenOut(t *testing.T) {
	c, a, b, d := cells.New(), key(1, 1, 9), key(1, 2, 0), key(2, 0, 0)
	for _, k := range []api.Key{d, b, a} {
		wantWrite(t, c, k, 3, "three", api.OK)
	}
	wantWrite(t, c, b, 3, "", api.OK)
	wantWrite(t, c, a, 3, "anew", api.OK)
	wantWrite(t, c, a, 2, "two", api.OK)
	wantWrite(t, c, d, 4, "four", api.OK)
	wantRead(t, c, d, 6, open(4, 6, "four"))
	wantCommit(t, c, 3, wrote(a, "anew"), wrote(b, ""), wrote(d, "three"))
	wantChain(t, c, a, done(0, 0, ""), open(2, 2, "two"), done(3, 3, "anew"))
	wantChain(t, c, b, done(0, 0, ""), done(3, 3, ""))
	wantChain(t, c, d, done(0, 0, ""), done(3, 3, "three"), open(4, 6, "four"))
	wantCommit(t, c, 3)
	for _, ts := range []int64{least, -3, -1, 0, 1, 5, 6, 3 + 1<<32, 3 + last, 3 | least, greatest} {
		wantCommit(t, c, ts)
	}
	wantCommit(t, c, 4, wrote(d, "four"))
	wantCommit(t, c, 2, wrote(a, "two"))
	wantCommit(t, c, 2)
	wantChain(t, c, a, done(0, 0, ""), done(2, 2, "two"), done(3, 3, "anew"))
	wantChain(t, c, d, done(0, 0, ""), done(3, 3, "three"), done(4, 6, "four"))
}

// P11.3: who was committed, and writes to another key then, is told that alone.
func TestCommitOfWhatIsLeft(t *testing.T) {
	c, a, b := cells.New(), key(1, 0, 0), key(2, 0, 0)
	wantWrite(t, c, a, 3, "x", api.OK)
	wantCommit(t, c, 3, wrote(a, "x"))
	wantWrite(t, c, b, 3, "y", api.OK)
	wantWrite(t, c, a, 3, "z", api.ErrLate)
	wantCommit(t, c, 3, wrote(b, "y"))
	wantCommit(t, c, 3)
	wantNewest(t, c, wrote(a, "x"), wrote(b, "y"))
}

// P11.3: what was set, and isn't Done, is committed as what was written is.
func TestCommitOfWhatWasSet(t *testing.T) {
	c, a, b := cells.New(), key(1, 0, 0), key(2, 0, 0)
	c.Set(b, row(done(0, 0, ""), open(5, 8, "five"), open(9, 9, "nine")))
	c.Set(a, row(done(5, 5, "first"), open(9, 12, "")))
	wantCommit(t, c, 5, wrote(b, "five"))
	wantCommit(t, c, 9, wrote(a, ""), wrote(b, "nine"))
	wantChain(t, c, a, done(5, 5, "first"), done(9, 12, ""))
	wantChain(t, c, b, done(0, 0, ""), done(5, 8, "five"), done(9, 9, "nine"))
}

// P11.3: Abort.

func TestAbortAsWrittenOut(t *testing.T) {
	c, a, b := cells.New(), key(1, 0, 0), key(2, 0, 0)
	c.Set(a, row(done(0, 3, "zero"), open(4, 6, "four"), open(9, 10, "nine"), done(12, 20, "twelve")))
	c.Set(b, row(done(0, 0, ""), done(4, 4, "done"), open(9, 9, "nine")))
	for _, ts := range []int64{least, -9, -1, 0, 1, 3, 5, 8, 10, 12, 9 + 1<<32, 9 + last, 9 | least, greatest} {
		c.Abort(ts)
	}
	wantChain(t, c, a, done(0, 3, "zero"), open(4, 6, "four"), open(9, 10, "nine"), done(12, 20, "twelve"))
	wantChain(t, c, b, done(0, 0, ""), done(4, 4, "done"), open(9, 9, "nine"))
	c.Abort(9)
	wantChain(t, c, a, done(0, 3, "zero"), open(4, 6, "four"), done(12, 20, "twelve"))
	wantChain(t, c, b, done(0, 0, ""), done(4, 4, "done"))
	c.Abort(4)
	wantChain(t, c, a, done(0, 3, "zero"), done(12, 20, "twelve"))
	wantChain(t, c, b, done(0, 0, ""), done(4, 4, "done"))
	wantCommit(t, c, 9)
	wantCommit(t, c, 4)
	wantKeys(t, c, a, b)
}

// P11.3: Newest.

func TestNewestAsWrittenOut(t *testing.T) {
	c := cells.New()
	for i, x := range [][]chain.Ver{
		row(done(0, 0, "")),
		row(done(0, 0, "zero")),
		row(done(0, 0, "zero"), open(5, 5, "five")),
		row(done(0, 0, "zero"), done(5, 5, "five")),
		row(done(0, 0, "zero"), done(5, 5, "")),
		row(done(0, 0, "zero"), done(5, 5, ""), open(7, 7, "seven")),
		row(done(0, 0, "zero"), done(5, 5, "five"), open(7, 7, ""), open(9, 9, "nine")),
		row(done(0, 0, ""), open(5, 5, "five"), done(7, 7, "seven"), open(9, 9, "")),
		row(done(0, 0, ""), open(5, 5, "five")),
		row(done(3, 3, "three")),
		row(done(0, 0, ""), done(5, 5, "\x00")),
	} {
		c.Set(key(1, 20-i, 0), x)
	}
	wantNewest(t, c,
		wrote(key(1, 10, 0), "\x00"), wrote(key(1, 11, 0), "three"), wrote(key(1, 13, 0), "seven"), wrote(key(1, 14, 0), "five"),
		wrote(key(1, 17, 0), "five"), wrote(key(1, 18, 0), "zero"), wrote(key(1, 19, 0), "zero"))
}

// P11.3: the chapter's example.
func TestWrittenBy3AndCommitted(t *testing.T) {
	c, k := cells.New(), key(4, 2, 1)
	wantWrite(t, c, k, 3, "x", api.OK)
	wantNewest(t, c)
	wantCommit(t, c, 3, wrote(k, "x"))
	wantNewest(t, c, wrote(k, "x"))
	wantWrite(t, c, k, 5, "", api.OK)
	wantNewest(t, c, wrote(k, "x"))
	wantCommit(t, c, 5, wrote(k, ""))
	wantNewest(t, c)
}

// P11.3: a Cells that is nil.
func TestNilCells(t *testing.T) {
	var c *cells.Cells
	for range 2 {
		for _, ts := range edges {
			for _, k := range []api.Key{{}, key(1, 2, 3), key(-1, math.MinInt, math.MaxInt)} {
				wantRead(t, c, k, ts, chain.Ver{})
				wantWrite(t, c, k, ts, "x", api.ErrArg)
				wantWrite(t, c, k, ts, "", api.ErrArg)
				c.Set(k, row(done(0, 5, "x"), open(9, 9, "y")))
				c.Set(k, nil)
				wantChain(t, c, k, done(0, 0, ""))
			}
			wantCommit(t, c, ts)
			c.Abort(ts)
			wantKeys(t, c)
			wantNewest(t, c)
		}
	}
}

// P11.4: one key's chain doesn't know of others'.
func TestOneKeyDoesNotKnowOfOthers(t *testing.T) {
	others := []api.Key{key(1, 2, 2), key(1, 2, 4), key(1, 1, 3), key(1, 3, 3), key(0, 2, 3), key(2, 2, 3), key(-1, -2, -3), {}}
	k := key(1, 2, 3)
	for _, l := range mayBe() {
		s := newStory()
		for i, other := range others {
			if i%2 == 0 {
				s.set(other, l)
			}
		}
		wantOthers := func(what string) {
			t.Helper()
			for i, other := range others {
				want := fresh()
				if i%2 == 0 {
					want = l
				}
				if got := s.c.Chain(other); !slices.Equal(got, want) {
					t.Errorf("%s: Chain(%+v) = %+v, not %+v", what, other, got, want)
				}
			}
		}
		for _, ts := range edges {
			s.read(t, k, ts)
			wantOthers("read")
			s.write(t, k, ts, "x")
			wantOthers("written")
			s.set(k, row(done(0, 3, ""), open(5, 5, "y")))
			wantOthers("set")
			s.set(k, nil)
			wantOthers("set to nothing")
		}
	}
}

// A diary is who wrote what, and what became of it, without a thought of chains.
type diary struct {
	wrote     map[int64]map[api.Key]string
	committed map[api.Key]map[int64]string
}

func newDiary() *diary {
	return &diary{wrote: map[int64]map[api.Key]string{}, committed: map[api.Key]map[int64]string{}}
}

func (d *diary) note(k api.Key, ts int64, val string) {
	if d.wrote[ts] == nil {
		d.wrote[ts] = map[api.Key]string{}
	}
	d.wrote[ts][k] = val
}

// commit is what is told then: the last of each key.
func (d *diary) commit(ts int64) []api.Write {
	var told []api.Write
	for k, val := range d.wrote[ts] {
		told = append(told, wrote(k, val))
		if d.committed[k] == nil {
			d.committed[k] = map[int64]string{}
		}
		d.committed[k][ts] = val
	}
	delete(d.wrote, ts)
	slices.SortFunc(told, func(a, b api.Write) int {
		if plainLess(a.K, b.K) {
			return -1
		}
		return 1
	})
	return told
}

// newest is, of a key, what the greatest timestamp wrote that was committed.
func (d *diary) newest(k api.Key) string {
	most, val := int64(0), ""
	for ts, v := range d.committed[k] {
		if ts > most {
			most, val = ts, v
		}
	}
	return val
}

// wantNoOther is: versions are what was written, and wasn't aborted, and no others.
func (d *diary) wantNoOther(t *testing.T, c *cells.Cells) {
	t.Helper()
	count := 0
	for _, k := range c.Keys() {
		for _, v := range c.Chain(k)[1:] {
			val, noted := d.wrote[v.Ts][k]
			if v.Done {
				val, noted = d.committed[k][v.Ts]
			}
			if !noted || val != v.Val {
				t.Errorf("%+v has %+v, and %q was written (%t)", k, v, val, noted)
			}
			count++
		}
	}
	for _, m := range d.wrote {
		count -= len(m)
	}
	for _, m := range d.committed {
		count -= len(m)
	}
	if count != 0 {
		t.Errorf("there are %d versions more than were written", count)
	}
}

// P11.4: what is committed is what was written, the last of each key; what is aborted is nowhere.
func TestCommittedIsWhatWasWritten(t *testing.T) {
	random := rand.New(rand.NewSource(1))
	keys := []api.Key{key(1, 0, 0), key(1, 1, 0), key(2, 0, 0), key(4, 0, 3), key(4, 1, 0), key(-1, 0, 0)}
	for range 150 {
		s, d := newStory(), newDiary()
		for i := range 120 {
			k, ts := keys[random.Intn(len(keys))], int64(random.Intn(12)+1)
			switch random.Intn(8) {
			case 0:
				s.read(t, k, ts)
			case 1:
				if got, want := s.commit(t, ts), d.commit(ts); !slices.Equal(got, want) {
					t.Errorf("Commit(%d) = %+v, and what was written is %+v", ts, got, want)
				}
			case 2:
				s.abort(ts)
				delete(d.wrote, ts)
			default:
				val := strings.Repeat("x", i%5) + string(rune('a'+i%26))
				if i%9 == 0 {
					val = ""
				}
				if s.write(t, k, ts, val) == api.OK {
					d.note(k, ts, val)
				}
			}
			d.wantNoOther(t, s.c)
		}
		var want []api.Write
		for _, k := range s.c.Keys() {
			if val := d.newest(k); val != "" {
				want = append(want, wrote(k, val))
			}
		}
		wantNewest(t, s.c, want...)
	}
}

// P11.1 to P11.4: every row of four calls of two keys and two timestamps.
func TestEveryRowOfCalls(t *testing.T) {
	a, b := key(1, 2, 0), key(1, 1, 9)
	sets := [][]chain.Ver{nil, fresh(), row(done(0, 1, "s"), open(1, 1, "t"), open(2, 2, ""))}
	const calls, long = 15, 4
	rows := 1
	for range long {
		rows *= calls
	}
	for n := range rows {
		s := newStory()
		for left, i := n, 0; i < long; left, i = left/calls, i+1 {
			call := left % calls
			k, ts := []api.Key{a, b}[call%2], int64(call/2%2+1)
			switch {
			case call < 4:
				s.read(t, k, ts)
			case call < 8:
				s.write(t, k, ts, string(rune('a'+i)))
			case call < 10:
				s.commit(t, int64(call-7))
			case call < 12:
				s.abort(int64(call - 9))
			default:
				s.set(a, sets[call-12])
			}
		}
		s.same(t, "at the end", a, b)
		if t.Failed() {
			t.Fatalf("row %d", n)
		}
	}
}

// P11.1 to P11.4: whatever is called, in whatever order.
func TestWhateverIsCalled(t *testing.T) {
	random := rand.New(rand.NewSource(1))
	var chains [][]chain.Ver
	for _, l := range mayNotBe() {
		chains = append(chains, l)
	}
	slices.SortFunc(chains, func(a, b []chain.Ver) int { return len(a) - len(b) })
	chains = append(chains, mayBe()...)
	pick := func() int64 {
		if random.Intn(10) == 0 {
			return edges[random.Intn(len(edges))]
		}
		return int64(random.Intn(16)) - 1
	}
	for range 120 {
		s := newStory()
		for i := range 80 {
			k := key(random.Intn(3)-1, random.Intn(3)-1, random.Intn(2))
			switch random.Intn(12) {
			case 0:
				s.set(k, chains[random.Intn(len(chains))])
			case 1, 2:
				s.commit(t, pick())
			case 3:
				s.abort(pick())
			case 4, 5, 6, 7:
				s.read(t, k, pick())
			default:
				s.write(t, k, pick(), string(rune('a'+i%26)))
			}
			s.same(t, "behind a call", k)
		}
	}
}

// R3: what is handed to Set is not kept, up to its capacity, nor changed by any call.
func TestSetKeepsItsOwn(t *testing.T) {
	k := key(1, 2, 3)
	around := row(done(0, 0, "zero"), open(3, 3, "three"), open(5, 5, "five"), done(70, 70, "behind"), done(80, 80, "behind"))
	was := slices.Clone(around)
	c := cells.New()
	c.Set(k, around[:3])
	c.Read(k, 4)
	c.Write(k, 5, "anew")
	c.Write(k, 6, "six")
	c.Write(k, 7, "seven")
	c.Commit(3)
	c.Commit(7)
	c.Abort(5)
	c.Set(k, nil)
	if !slices.Equal(around, was) {
		t.Errorf("what was handed in is %+v now, and was %+v", around, was)
	}
	c.Set(k, around[:3])
	for i := range around {
		around[i] = open(-5, -6, "written to")
	}
	wantChain(t, c, k, done(0, 0, "zero"), open(3, 3, "three"), open(5, 5, "five"))
}

// R3: two keys that were set to one slice share nothing.
func TestSetOfTheSameSliceTwice(t *testing.T) {
	c, a, b := cells.New(), key(1, 0, 0), key(2, 0, 0)
	l := row(done(0, 0, ""), open(5, 5, "five"))
	c.Set(a, l)
	c.Set(b, l)
	c.Read(a, 9)
	c.Write(b, 7, "seven")
	wantChain(t, c, a, done(0, 0, ""), open(5, 9, "five"))
	wantChain(t, c, b, done(0, 0, ""), open(5, 5, "five"), open(7, 7, "seven"))
	// What is told of one may be set to the other.
	c.Set(b, c.Chain(a))
	c.Read(a, 20)
	wantChain(t, c, b, done(0, 0, ""), open(5, 9, "five"))
}

func scribbleChain(l []chain.Ver) {
	for i := range l[:cap(l)] {
		l[:cap(l)][i] = open(-5, -6, "written to")
	}
}

func scribbleKeys(l []api.Key) {
	for i := range l[:cap(l)] {
		l[:cap(l)][i] = key(-7, -8, -9)
	}
}

func scribbleWrites(l []api.Write) {
	for i := range l[:cap(l)] {
		l[:cap(l)][i] = wrote(key(-7, -8, -9), "written to")
	}
}

// R3: what is told is the caller's own: turned up to its capacity it changes nothing.
func TestWhatIsToldIsTheCallersOwn(t *testing.T) {
	s := newStory()
	keys := []api.Key{key(3, 1, 0), key(1, 1, 0), key(2, 1, 0), key(1, 0, 5)}
	turn := func(what string) {
		t.Helper()
		for _, k := range append(keys, key(9, 9, 9)) {
			scribbleChain(s.c.Chain(k))
		}
		scribbleKeys(s.c.Keys())
		scribbleWrites(s.c.Newest())
		s.same(t, what, key(9, 9, 9))
	}
	for ts := int64(1); ts < 9; ts++ {
		for i, k := range keys {
			s.write(t, k, ts, strings.Repeat("x", i+int(ts)))
			turn("written")
			s.read(t, k, ts)
			turn("read")
		}
		if ts%3 == 0 {
			s.abort(ts)
		} else {
			scribbleWrites(s.commit(t, ts))
		}
		turn("ended")
	}
	var none *cells.Cells
	scribbleChain(none.Chain(keys[0]))
	wantChain(t, none, keys[0], done(0, 0, ""))
	wantChain(t, cells.New(), keys[0], done(0, 0, ""))
}

// R3: no later call changes what an earlier one told.
func TestNoCallChangesWhatAnEarlierOneTold(t *testing.T) {
	type told struct {
		chains  [][]chain.Ver
		keys    []api.Key
		newest  []api.Write
		commits []api.Write
	}
	random := rand.New(rand.NewSource(1))
	keys := []api.Key{key(3, 1, 0), key(1, 1, 0), key(2, 1, 0), key(1, 0, 5)}
	c := cells.New()
	var all, was []told
	for i := range 150 {
		k, ts := keys[random.Intn(len(keys))], int64(i/8+random.Intn(4)+1)
		var x told
		switch random.Intn(8) {
		case 0:
			c.Abort(ts)
		case 1, 2:
			x.commits = c.Commit(ts)
		case 3:
			c.Set(k, c.Chain(keys[0]))
		case 4:
			c.Read(k, ts)
		default:
			c.Write(k, ts, string(rune('a'+i%26)))
		}
		x.keys, x.newest = c.Keys(), c.Newest()
		copied := told{keys: slices.Clone(x.keys), newest: slices.Clone(x.newest), commits: slices.Clone(x.commits)}
		for _, k := range keys {
			x.chains = append(x.chains, c.Chain(k))
			copied.chains = append(copied.chains, c.Chain(k))
		}
		all, was = append(all, x), append(was, copied)
	}
	for i, x := range all {
		if !slices.Equal(x.keys, was[i].keys) || !slices.Equal(x.newest, was[i].newest) || !slices.Equal(x.commits, was[i].commits) {
			t.Errorf("what was told behind call %d is %+v now, and was %+v", i, x, was[i])
		}
		for j, l := range x.chains {
			if !slices.Equal(l, was[i].chains[j]) {
				t.Errorf("a chain behind call %d is %+v now, and was %+v", i, l, was[i].chains[j])
			}
		}
	}
}

// R4: with many keys nothing hangs on the order of a map.
func TestManyKeysInOrder(t *testing.T) {
	c := cells.New()
	var want []api.Key
	var newest []api.Write
	for kind := -2; kind < 8; kind++ {
		for a := -3; a < 13; a++ {
			for b := -1; b < 3; b++ {
				k := key(kind, a, b)
				want = append(want, k)
				newest = append(newest, wrote(k, "x"))
			}
		}
	}
	// Each comes far from those beside it: 7 and the number of keys have no divisor.
	for i := range want {
		k := want[i*7%len(want)]
		for ts := int64(1); ts <= 20; ts++ {
			wantWrite(t, c, k, ts, "x", api.OK)
		}
	}
	for ts := int64(20); ts >= 1; ts-- {
		wantCommit(t, c, ts, newest...)
		wantKeys(t, c, want...)
		wantNewest(t, c, newest...)
	}
	for range 20 {
		wantKeys(t, c, want...)
		wantNewest(t, c, newest...)
	}
}

// P1: whatever is asked of whatever cells.
func FuzzCells(f *testing.F) {
	f.Add([]byte("\x01\x02\x03\x01\x01\x03\x02\x02\x03\x03\x02\x03"))
	f.Add([]byte("\x05\x01\x09\x01\x01\x05\x02\x01\x0c"))
	f.Add([]byte("\x04\x01\xff\x14\x01\xff\x24\x01\x81\x00\x01\x80"))
	f.Add([]byte{})
	f.Fuzz(func(t *testing.T, b []byte) {
		s := newStory()
		for i := 0; len(b) >= 3 && i < 60; b, i = b[3:], i+1 {
			k, ts := key(int(int8(b[1]))/64, int(b[1]%4), 0), int64(int8(b[2]))
			if b[0]&8 != 0 {
				ts <<= 33
			}
			switch b[0] % 6 {
			case 0:
				s.read(t, k, ts)
			case 1:
				s.write(t, k, ts, string(b[:1]))
			case 2:
				s.commit(t, ts)
			case 3:
				s.abort(ts)
			case 4:
				s.set(k, row(done(0, 3, "s"), chain.Ver{Ts: ts, Read: int64(b[0]), Val: "t", Done: b[0]&16 != 0}))
			default:
				s.write(t, k, ts, "")
			}
			s.same(t, "behind a call", k)
		}
	})
}

func parsed(t *testing.T) *ast.File {
	t.Helper()
	file, err := parser.ParseFile(token.NewFileSet(), "cells.go", nil, 0)
	if err != nil {
		t.Fatal(err)
	}
	return file
}

// Ways: chains stand in a map whose keys are struct values.
func TestChainsStandInAMapByKeys(t *testing.T) {
	found := false
	ast.Inspect(parsed(t), func(n ast.Node) bool {
		field, ok := n.(*ast.Field)
		if !ok {
			return true
		}
		if m, ok := field.Type.(*ast.MapType); ok {
			s, ok := m.Key.(*ast.SelectorExpr)
			found = found || ok && s.Sel.Name == "Key"
		}
		return true
	})
	if !found {
		t.Error("Cells has no map whose keys are api.Key")
	}
}

// R4 and R6: the package keeps nothing from call to call but in its objects, and calls chain alone.
func TestCellsCallsChainAlone(t *testing.T) {
	file := parsed(t)
	for _, i := range file.Imports {
		p := strings.Trim(i.Path.Value, `"`)
		if strings.HasPrefix(p, "ogive/") && p != "ogive/api" && p != "ogive/chain" {
			t.Errorf("cells imports %s", p)
		}
	}
	for _, d := range file.Decls {
		if g, ok := d.(*ast.GenDecl); ok && g.Tok == token.VAR {
			t.Error("cells has a variable at package level")
		}
	}
}
