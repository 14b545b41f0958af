package sweep_test

import (
	"fmt"
	"go/ast"
	"go/parser"
	"go/token"
	"math"
	"math/rand"
	"slices"
	"strings"
	"testing"

	"ogive/api"
	"ogive/cells"
	"ogive/chain"
	"ogive/sweep"
)

// The edges are written out, as no test should hang on another package's number.
const (
	last     = 1099511627776 // 2^40
	least    = math.MinInt64
	greatest = math.MaxInt64
)

// edges are timestamps beside which bits may be lost, or a number may go round.
var edges = []int64{
	least, least + 1, -1 << 62, -last, math.MinInt32, -256, -2, -1,
	0, 1, 2, 255, 256, math.MaxInt32, 1 << 31, math.MaxUint32, 1 << 32, 1<<32 + 1, last - 1, last, last + 1, 1 << 62, greatest - 1, greatest,
}

func key(kind, a, b int) api.Key { return api.Key{Kind: kind, A: a, B: b} }

func done(ts, read int64, val string) chain.Ver {
	return chain.Ver{Ts: ts, Read: read, Val: val, Done: true}
}

func open(ts, read int64, val string) chain.Ver {
	return chain.Ver{Ts: ts, Read: read, Val: val}
}

func row(vers ...chain.Ver) []chain.Ver { return vers }

func list(numbers ...int64) []int64 { return numbers }

// example is the chapter's chain.
func example() []chain.Ver {
	return row(done(1, 1, "a"), done(5, 5, "b"), done(9, 9, "c"), done(12, 12, "d"))
}

// mayBe are chains that may be.
func mayBe() [][]chain.Ver {
	return [][]chain.Ver{
		row(done(0, 0, "")),
		row(done(0, 0, "zero")),
		row(done(0, 9, "")),
		row(done(7, 30, "")),
		row(done(0, greatest, "")),
		example(),
		row(done(0, 0, ""), open(1, 1, "one")),
		row(done(0, 0, ""), open(1, 1, "")),
		row(done(0, 9, "zero"), done(12, 12, "")),
		row(done(0, 20, "zero"), done(12, 12, "")),
		row(done(0, 0, ""), done(1, 1, "a"), open(2, 2, "b"), done(3, 3, "c")),
		row(done(0, 3, "zero"), done(5, 7, "five"), open(9, 9, "nine"), done(12, 20, "twelve")),
		row(done(0, 3, "zero"), open(5, 7, "five"), done(9, 9, ""), open(12, 20, "")),
		row(done(0, 0, ""), open(4, 6, "four"), open(8, 8, "eight"), open(20, 31, "twenty")),
		row(done(1, 1, "a"), done(4, 4, "b"), open(6, 6, "c"), done(8, 8, "d"), done(11, 11, "e"), open(14, 14, "f"), done(17, 17, "g")),
		row(done(0, 0, ""), done(1<<31, 1<<31, "a"), open(1<<32, 1<<32+1, "b"), done(last, last, "c")),
		row(done(last, last, "a"), open(last+1, last+1, "b"), done(greatest-1, greatest-1, "c"), open(greatest, greatest, "d")),
		row(done(0, 0, "a"), done(greatest, greatest, "")),
		row(done(greatest, greatest, "")),
	}
}

// mayNotBe are chains that may not be, and why.
func mayNotBe() map[string][]chain.Ver {
	room := row(done(0, 0, ""), open(1, 1, ""))
	return map[string][]chain.Ver{
		"nil":                      nil,
		"empty":                    {},
		"empty, with room":         room[:0],
		"a first Ts below 0":       row(done(-1, 0, "a")),
		"below 0, and open ones":   row(done(-1, 0, "a"), open(3, 3, "b"), done(5, 5, "c")),
		"the least Ts":             row(done(least, least, ""), done(0, 0, "")),
		"two of one Ts":            row(done(0, 0, ""), done(5, 5, "a"), open(5, 5, "b")),
		"two of one Ts, both Done": row(done(0, 0, ""), done(5, 5, "a"), done(5, 5, "b")),
		"falling":                  row(done(0, 0, ""), done(5, 5, "a"), done(4, 9, "b")),
		"falling, and open":        row(done(0, 0, ""), open(5, 5, "a"), open(4, 9, "b")),
		"a Read too low":           row(done(0, 0, ""), done(5, 4, "a")),
		"a Read below 0":           row(done(0, -1, "")),
		"an open one's Read":       row(done(0, 0, ""), open(5, 4, "a")),
		"the first one open":       row(open(0, 0, "a"), done(5, 5, "b")),
		"one alone, open":          row(open(3, 3, "a")),
		"all open":                 row(open(3, 3, "a"), open(4, 4, "b")),
	}
}

// plainCounts is whether a timestamp counts, by the chapter's word.
func plainCounts(c []chain.Ver, active []int64, ts int64) bool {
	return slices.Contains(active, ts) || slices.ContainsFunc(c, func(v chain.Ver) bool { return !v.Done && v.Ts == ts })
}

// plainNeeded is the chapter's word for it, with no thought of cost.
func plainNeeded(c []chain.Ver, active []int64) []bool {
	told := make([]bool, len(c))
	if !chain.May(c) {
		return told
	}
	count := slices.Clone(active)
	for _, v := range c {
		if !v.Done {
			count = append(count, v.Ts)
		}
	}
	for i, v := range c {
		isLast := v.Done
		for _, w := range c[i+1:] {
			isLast = isLast && !w.Done
		}
		told[i] = !v.Done || isLast
		for _, ts := range count {
			sees := v.Done && v.Ts <= ts
			for _, w := range c[i+1:] {
				sees = sees && !(w.Done && w.Ts <= ts)
			}
			told[i] = told[i] || sees
		}
	}
	return told
}

func plainPrune(c []chain.Ver, active []int64) []chain.Ver {
	var left []chain.Ver
	for i, needed := range plainNeeded(c, active) {
		if needed {
			left = append(left, c[i])
		}
	}
	if len(left) != 1 || left[0].Val != "" {
		return left
	}
	for _, ts := range active {
		if left[0].Read >= ts {
			return left
		}
	}
	return nil
}

// A plain is cells as keys in order, and the chain of each.
type plain struct {
	keys   []api.Key
	chains [][]chain.Ver
}

// set is of a chain that may be.
func (p *plain) set(k api.Key, l []chain.Ver) {
	at := 0
	for at < len(p.keys) && plainLess(p.keys[at], k) {
		at++
	}
	p.keys = slices.Insert(p.keys, at, k)
	p.chains = slices.Insert(p.chains, at, l)
}

func plainLess(a, b api.Key) bool {
	if a.Kind != b.Kind {
		return a.Kind < b.Kind
	}
	if a.A != b.A {
		return a.A < b.A
	}
	return a.B < b.B
}

// sweep goes from key to key, one by one, as the chapter says, and lets those be gone at last of which nothing is said any more.
func (p *plain) sweep(active []int64, from api.Key, batch int) (api.Key, int) {
	if batch < 1 || len(p.keys) == 0 {
		return from, 0
	}
	at := 0
	for at < len(p.keys) && plainLess(p.keys[at], from) {
		at++
	}
	if at == len(p.keys) {
		at = 0
	}
	fewer := 0
	for swept := 0; swept < batch && swept < len(p.keys); swept++ {
		left := plainPrune(p.chains[at], active)
		fewer += len(p.chains[at]) - len(left)
		p.chains[at] = left
		at++
		if at == len(p.keys) {
			at = 0
		}
	}
	next := p.keys[at]
	p.tidy()
	return next, fewer
}

func (p *plain) tidy() {
	for i := len(p.keys) - 1; i >= 0; i-- {
		if len(p.chains[i]) == 0 {
			p.keys = slices.Delete(p.keys, i, i+1)
			p.chains = slices.Delete(p.chains, i, i+1)
		}
	}
}

// made is cells, and a plain, of the same chains.
func (p *plain) made() *cells.Cells {
	c := cells.New()
	for i, k := range p.keys {
		c.Set(k, p.chains[i])
	}
	return c
}

func (p *plain) clone() *plain {
	q := &plain{keys: slices.Clone(p.keys)}
	for _, l := range p.chains {
		q.chains = append(q.chains, slices.Clone(l))
	}
	return q
}

// some are cells whose keys differ in each of the three, and stand beside edges.
func some() *plain {
	p := &plain{}
	keys := []api.Key{
		key(math.MinInt, 0, 0), key(-1, 5, 5), key(0, 0, 0), key(1, 2, 3), key(1, 2, 4), key(1, 3, 0), key(2, -1, 9), key(2, 0, 0),
		key(4, 15, 3), key(7, 0, 0), key(9, math.MinInt, 0), key(9, 0, 0), key(10, 0, math.MaxInt), key(1<<32, 0, 0), key(math.MaxInt, math.MaxInt, math.MaxInt),
	}
	chains := mayBe()
	for i, k := range keys {
		p.set(k, chains[i])
	}
	return p
}

// beside are the timestamps of a chain and those beside them, and edges, rising, each once.
func beside(c []chain.Ver) []int64 {
	told := slices.Clone(edges)
	for _, v := range c {
		told = append(told, v.Ts-1, v.Ts, v.Ts+1, v.Read-1, v.Read, v.Read+1)
	}
	slices.Sort(told)
	return slices.Compact(told)
}

// besideKeys are the keys, and those beside them that differ in one number by one.
func besideKeys(keys []api.Key) []api.Key {
	told := slices.Clone(keys)
	for _, k := range keys {
		for _, by := range []int{-1, 1} {
			told = append(told, key(k.Kind+by, k.A, k.B), key(k.Kind, k.A+by, k.B), key(k.Kind, k.A, k.B+by))
		}
	}
	return told
}

func wantNeeded(t *testing.T, c []chain.Ver, active []int64, want ...bool) {
	t.Helper()
	was, wasActive := slices.Clone(c), slices.Clone(active)
	for range 2 { // R4: asked again
		if got := sweep.Needed(c, active); !slices.Equal(got, want) {
			t.Errorf("Needed(%+v, %d) = %t, not %t", c, active, got, want)
		}
	}
	if !slices.Equal(c, was) || !slices.Equal(active, wasActive) {
		t.Errorf("Needed(%+v, %d) left %+v, %d", was, wasActive, c, active)
	}
}

func wantPrune(t *testing.T, c []chain.Ver, active []int64, want ...chain.Ver) {
	t.Helper()
	was, wasActive := slices.Clone(c), slices.Clone(active)
	for range 2 {
		if got := sweep.Prune(c, active); !slices.Equal(got, want) {
			t.Errorf("Prune(%+v, %d) = %+v, not %+v", c, active, got, want)
		}
	}
	if !slices.Equal(c, was) || !slices.Equal(active, wasActive) {
		t.Errorf("Prune(%+v, %d) left %+v, %d", was, wasActive, c, active)
	}
}

// wantPlain is both of a chain, against the chapter's words.
func wantPlain(t *testing.T, c []chain.Ver, active []int64) {
	t.Helper()
	wantNeeded(t, c, active, plainNeeded(c, active)...)
	wantPrune(t, c, active, plainPrune(c, active)...)
}

// wantCells holds all chains against a plain's, those of other keys too.
func wantCells(t *testing.T, what string, c *cells.Cells, p *plain, others ...api.Key) {
	t.Helper()
	if got := c.Keys(); !slices.Equal(got, p.keys) {
		t.Errorf("%s: Keys() = %+v, not %+v", what, got, p.keys)
	}
	for i, k := range p.keys {
		if got := c.Chain(k); !slices.Equal(got, p.chains[i]) {
			t.Errorf("%s: Chain(%+v) = %+v, not %+v", what, k, got, p.chains[i])
		}
	}
	for _, k := range others {
		if !slices.Contains(p.keys, k) && !slices.Equal(c.Chain(k), chain.Fresh()) {
			t.Errorf("%s: Chain(%+v) = %+v, of which nothing is said", what, k, c.Chain(k))
		}
	}
}

// wantSweep holds what is told, and all chains behind it, against those that are written out.
func wantSweep(t *testing.T, c *cells.Cells, active []int64, from api.Key, batch int, next api.Key, fewer int) {
	t.Helper()
	was := slices.Clone(active)
	if k, n := sweep.Sweep(c, active, from, batch); k != next || n != fewer {
		t.Errorf("Sweep(%d, %+v, %d) = %+v, %d, not %+v, %d", was, from, batch, k, n, next, fewer)
	}
	if !slices.Equal(active, was) {
		t.Errorf("Sweep(%d, %+v, %d) left %d", was, from, batch, active)
	}
}

// stepSweep sweeps both cells and a plain, and holds all against each other.
func stepSweep(t *testing.T, c *cells.Cells, p *plain, active []int64, from api.Key, batch int) api.Key {
	t.Helper()
	keys := slices.Clone(p.keys)
	next, fewer := p.sweep(active, from, batch)
	wantSweep(t, c, active, from, batch, next, fewer)
	wantCells(t, fmt.Sprint("swept from ", from, ", ", batch), c, p, keys...)
	return next
}

// P13.1: Needed.

// The chapter's example.
func TestNeededOfTheExample(t *testing.T) {
	wantNeeded(t, example(), list(10), false, false, true, true)
}

func TestNeededAsWrittenOut(t *testing.T) {
	for _, x := range []struct {
		active []int64
		want   []bool
	}{
		{nil, []bool{false, false, false, true}},
		{list(), []bool{false, false, false, true}},
		{list(least), []bool{false, false, false, true}},
		{list(-1), []bool{false, false, false, true}},
		{list(0), []bool{false, false, false, true}},
		{list(1), []bool{true, false, false, true}},
		{list(2), []bool{true, false, false, true}},
		{list(4), []bool{true, false, false, true}},
		{list(5), []bool{false, true, false, true}},
		{list(8), []bool{false, true, false, true}},
		{list(9), []bool{false, false, true, true}},
		{list(11), []bool{false, false, true, true}},
		{list(12), []bool{false, false, false, true}},
		{list(13), []bool{false, false, false, true}},
		{list(greatest), []bool{false, false, false, true}},
		{list(4, 8), []bool{true, true, false, true}},
		{list(8, 4), []bool{true, true, false, true}},
		{list(10, 2), []bool{true, false, true, true}},
		{list(2, 10, 2, 10, 10), []bool{true, false, true, true}},
		{list(7, 3, 10), []bool{true, true, true, true}},
		{list(greatest, 7, least), []bool{false, true, false, true}},
		{list(5, 6, 7, 8), []bool{false, true, false, true}},
	} {
		wantNeeded(t, example(), x.active, x.want...)
	}
}

// P13.1: one that isn't Done is needed, and what is seen from there.
func TestNeededOfOpenOnes(t *testing.T) {
	c := row(done(1, 1, "a"), done(4, 4, "b"), open(6, 6, "c"), done(8, 8, "d"), done(11, 11, "e"), open(14, 14, "f"), done(17, 17, "g"))
	wantNeeded(t, c, nil, false, true, true, false, true, true, true)
	wantNeeded(t, c, list(3), true, true, true, false, true, true, true)
	wantNeeded(t, c, list(10), false, true, true, true, true, true, true)
	wantNeeded(t, c, list(8, 1), true, true, true, true, true, true, true)
	// One that is active sees past those that aren't Done the last one that is.
	wantNeeded(t, c, list(6), false, true, true, false, true, true, true)
	wantNeeded(t, c, list(7), false, true, true, false, true, true, true)
	c = row(done(0, 0, "a"), open(2, 2, "b"), open(3, 3, "c"), open(9, 9, "d"))
	wantNeeded(t, c, nil, true, true, true, true)
	c = row(done(0, 0, "a"), done(1, 1, "b"), done(2, 2, "c"), open(3, 3, "d"))
	wantNeeded(t, c, nil, false, false, true, true)
	wantNeeded(t, c, list(1), false, true, true, true)
	wantNeeded(t, c, list(3), false, false, true, true)
	c = row(done(0, 0, "a"), done(1, 1, "b"), open(2, 2, "c"), done(3, 3, "d"))
	wantNeeded(t, c, nil, false, true, true, true)
}

// P13.1: the last one that is Done is needed by those that come, also where nobody is there.
func TestNeededOfOneAlone(t *testing.T) {
	for _, v := range row(done(0, 0, ""), done(0, 9, "x"), done(7, 7, ""), done(greatest, greatest, "x")) {
		for _, active := range [][]int64{nil, {}, {least}, {0}, {7}, {greatest}, {3, 1, 2}} {
			wantNeeded(t, row(v), active, true)
		}
	}
}

// P13.1: a chain that may not be, also its versions that aren't Done.
func TestNeededOfChainsThatMayNotBe(t *testing.T) {
	for why, c := range mayNotBe() {
		t.Run(why, func(t *testing.T) {
			for _, active := range [][]int64{nil, {}, {0}, {3}, {5, 4}, {least, greatest}} {
				wantNeeded(t, c, active, make([]bool, len(c))...)
				wantPrune(t, c, active)
			}
		})
	}
}

// P13.1: whether it was read isn't asked, nor what it has.
func TestNeededHangsOnTimestampsAlone(t *testing.T) {
	for _, c := range mayBe() {
		other := slices.Clone(c)
		for i := range other {
			other[i].Read, other[i].Val = greatest, other[i].Val+"more"
		}
		for _, ts := range beside(c) {
			wantNeeded(t, other, list(ts), sweep.Needed(c, list(ts))...)
		}
	}
}

// P13.1: Prune.

func TestPruneAsWrittenOut(t *testing.T) {
	c := example()
	wantPrune(t, c, list(10), c[2], c[3])
	wantPrune(t, c, nil, c[3])
	wantPrune(t, c, list(3, 6), c[0], c[1], c[3])
	wantPrune(t, c, list(1, 5, 9, 12), c...)
	// Each with its Ts, Read, Val and Done.
	c = row(done(1, 4, "a"), open(5, 8, "b"), done(9, 11, "c"), open(12, 30, ""), done(15, 15, "e"))
	wantPrune(t, c, nil, c...)
	c = row(done(0, 3, "x"), done(1, 4, "a"), open(5, 8, "b"), done(7, 7, "y"), done(9, 11, "c"), open(12, 30, ""), done(14, 20, "z"), done(15, 15, ""))
	wantPrune(t, c, nil, c[1], c[2], c[4], c[5], c[7])
	wantPrune(t, c, list(14, 0), c[0], c[1], c[2], c[4], c[5], c[6], c[7])
}

// P13.1: one version alone that has nothing goes, if it was read below all that are active.
func TestPruneOfWhatHasNothing(t *testing.T) {
	for _, read := range []int64{3, 4, 9, 256, last, greatest - 1, greatest} {
		v := done(3, read, "")
		wantPrune(t, row(v), nil)
		wantPrune(t, row(v), list())
		for _, below := range []int64{read, read - 1, 2, 1, 0, -1, least} {
			wantPrune(t, row(v), list(below), v)
			wantPrune(t, row(v), list(below, greatest), v)
			wantPrune(t, row(v), list(greatest, below), v)
			wantPrune(t, row(v), list(greatest, below, greatest), v)
		}
		if read < greatest {
			wantPrune(t, row(v), list(read+1))
			wantPrune(t, row(v), list(greatest))
			wantPrune(t, row(v), list(greatest, read+1))
			wantPrune(t, row(v), list(read+1, read+1, greatest))
		}
	}
	wantPrune(t, chain.Fresh(), list(1))
	wantPrune(t, chain.Fresh(), list(0), chain.Fresh()...)
	wantPrune(t, chain.Fresh(), list(-1), chain.Fresh()...)
}

// P13.1: what has something stays, whatever it is.
func TestPruneOfWhatHasSomething(t *testing.T) {
	for _, val := range []string{"x", "\x00", " ", "\xff", strings.Repeat("x", 1<<16)} {
		for _, active := range [][]int64{nil, {}, {4}, {5}, {6}, {greatest}, {least}} {
			v := done(3, 5, val)
			wantPrune(t, row(v), active, v)
		}
	}
}

// P13.1: of several versions one may be needed alone: just that one is asked what it has, and who read it.
func TestPruneOfWhatIsAloneThen(t *testing.T) {
	c := row(done(0, 0, "a"), done(2, 40, "b"), done(5, 9, ""))
	wantPrune(t, c, nil)
	wantPrune(t, c, list(10))
	wantPrune(t, c, list(10, 12, 11))
	wantPrune(t, c, list(9), c[2])
	wantPrune(t, c, list(5), c[2])
	wantPrune(t, c, list(10, 9), c[2])
	wantPrune(t, c, list(4), c[1], c[2])
	wantPrune(t, c, list(4, 50), c[1], c[2])
	c = row(done(0, 0, ""), done(2, 2, ""), done(5, 9, "x"))
	wantPrune(t, c, nil, c[2])
	wantPrune(t, c, list(50), c[2])
	wantPrune(t, c, list(-1, 0), c[0], c[2])
}

// P13.1: where more than one is needed all stay that are, though they have nothing.
func TestPruneOfSeveralThatHaveNothing(t *testing.T) {
	c := row(done(0, 0, ""), open(3, 3, ""))
	wantPrune(t, c, nil, c...)
	wantPrune(t, c, list(9), c...)
	c = row(done(0, 0, ""), done(3, 3, ""))
	wantPrune(t, c, list(2), c...)
	wantPrune(t, c, list(1, 9), c...)
	wantPrune(t, c, list(9))
	c = row(done(0, 0, ""), open(3, 3, ""), done(5, 5, ""))
	wantPrune(t, c, nil, c...)
}

// P13.1: at whatever timestamps, one and two of them, in either order.
func TestChainsThatMayBe(t *testing.T) {
	for _, c := range mayBe() {
		near := beside(c)
		wantPlain(t, c, nil)
		for _, a := range near {
			wantPlain(t, c, list(a))
			for _, b := range near {
				wantPlain(t, c, list(a, b))
			}
		}
	}
}

// eachShort calls f with each chain of versions of 0 to 3 that may be, each with a Read of its own, or of one above, or of 4, with something or with nothing.
func eachShort(f func(c []chain.Ver)) {
	var put func(c []chain.Ver, from int64)
	put = func(c []chain.Ver, from int64) {
		if len(c) > 0 {
			f(c)
		}
		for ts := from; ts <= 3; ts++ {
			for _, read := range slices.Compact(list(ts, ts+1, 4)) {
				for i := range 4 {
					if v := (chain.Ver{Ts: ts, Read: read, Val: []string{"", "x"}[i%2], Done: i < 2}); v.Done || len(c) > 0 {
						put(append(slices.Clone(c), v), ts+1)
					}
				}
			}
		}
	}
	put(nil, 0)
}

// P13.1: every chain of few versions of small numbers, with each of three that may be active, or not.
func TestEveryShortChain(t *testing.T) {
	actives := [][]int64{nil, {-1}, {0}, {1}, {2}, {3}, {4}, {5}, {2, 0}, {1, 3}, {4, 2, 4}, {5, 6}}
	eachShort(func(c []chain.Ver) {
		for _, active := range actives {
			if t.Failed() {
				return
			}
			needed := sweep.Needed(c, active)
			if want := plainNeeded(c, active); !slices.Equal(needed, want) {
				t.Errorf("Needed(%+v, %d) = %t, not %t", c, active, needed, want)
			}
			left := sweep.Prune(c, active)
			if want := plainPrune(c, active); !slices.Equal(left, want) {
				t.Errorf("Prune(%+v, %d) = %+v, not %+v", c, active, left, want)
			}
			wantFollows(t, c, left, active, list(-1, 0, 1, 2, 3, 4, 5, 6, 7))
		}
	})
}

// chance is a chain of several versions, whatever chance says.
func chance(random *rand.Rand, many int) []chain.Ver {
	var c []chain.Ver
	ts := int64(random.Intn(3))
	for range many {
		v := chain.Ver{Ts: ts, Read: ts + int64(random.Intn(4)*random.Intn(5)), Done: len(c) == 0 || random.Intn(3) > 0}
		if random.Intn(3) > 0 {
			v.Val = string(rune('a' + random.Intn(26)))
		}
		c = append(c, v)
		ts += int64(1 + random.Intn(4))
	}
	return c
}

func someActive(random *rand.Rand, below int) []int64 {
	var active []int64
	for range random.Intn(5) {
		active = append(active, int64(random.Intn(below)))
	}
	return active
}

// P13.1, P13.3 and P13.4: longer chains.
func TestLongChains(t *testing.T) {
	random := rand.New(rand.NewSource(1))
	for range 3000 {
		c := chance(random, 1+random.Intn(20))
		active := someActive(random, 60)
		wantPlain(t, c, active)
		var asked []int64
		for ts := int64(-1); ts < 80; ts++ {
			asked = append(asked, ts)
		}
		wantFollows(t, c, sweep.Prune(c, active), active, asked)
		if t.Failed() {
			return
		}
	}
}

// P1: as many versions, and as many that are active, as make each with each too many to be gone through.
func TestManyVersionsAndActive(t *testing.T) {
	const many = 1 << 18
	var c []chain.Ver
	var active []int64
	for n := range int64(many) {
		c = append(c, chain.Ver{Ts: 3 * n, Read: 3 * n, Val: "x", Done: n%2 == 0})
		active = append(active, 3*(many-n))
	}
	for i, needed := range sweep.Needed(c, active) {
		if !needed {
			t.Fatalf("the version %d isn't needed", i)
		}
	}
	for i := range c {
		c[i].Done = true
	}
	if left := sweep.Prune(c, slices.Repeat(list(9, 5), many)); !slices.Equal(left, row(c[1], c[3], c[many-1])) {
		t.Errorf("%d are left", len(left))
	}
}

// P13.3 and P13.4.

// wantFollows is both of a chain, and of what is left of it: what those see that count or come later, and where they may write; that it is pruned already; that it is no longer than it may be.
func wantFollows(t *testing.T, c, left []chain.Ver, active, asked []int64) {
	t.Helper()
	then := left
	if len(left) == 0 {
		then = chain.Fresh()
	}
	later := int64(least)
	for _, v := range c {
		later = max(later, v.Read)
	}
	for _, ts := range active {
		later = max(later, ts)
	}
	counting := map[int64]bool{}
	for _, ts := range asked {
		counts := plainCounts(c, active, ts)
		counting[ts] = counts
		if !counts && ts <= later {
			continue
		}
		_, was := chain.Read(c, ts)
		_, is := chain.Read(then, ts)
		if was.Val != is.Val {
			t.Errorf("%d sees %+v, and saw %+v, of %+v with %d", ts, is, was, c, active)
		}
		_, e := chain.Write(c, ts, "new")
		if _, now := chain.Write(then, ts, "new"); now != e {
			t.Errorf("%d is told %d, and was %d, of %+v with %d", ts, now, e, c, active)
		}
	}
	if again := sweep.Prune(left, active); !slices.Equal(again, left) {
		t.Errorf("pruned twice: %+v, once: %+v, of %+v with %d", again, left, c, active)
	}
	if len(left) > 0 && !chain.May(left) {
		t.Errorf("%+v may not be, of %+v with %d", left, c, active)
	}
	many := 1
	for ts := range counting {
		if counting[ts] {
			many += 2
		}
	}
	if len(left) > many {
		t.Errorf("%d versions are left of %+v with %d", len(left), c, active)
	}
}

// P13.3: at edges. (What counts is asked for all, so P13.4 is held, too.)
func TestNobodySeesAnotherValue(t *testing.T) {
	for _, c := range mayBe() {
		near := beside(c)
		wantFollows(t, c, sweep.Prune(c, nil), nil, near)
		for _, a := range near {
			for _, b := range near {
				active := list(a, b)
				wantFollows(t, c, sweep.Prune(c, active), active, near)
			}
		}
	}
}

// P13.3: one that was active reads and writes on in what is left as it would have, whatever else those do that come later.
func TestAllGoOnAsTheyWould(t *testing.T) {
	random := rand.New(rand.NewSource(2))
	for range 4000 {
		c := chance(random, 1+random.Intn(8))
		active := someActive(random, 30)
		left := sweep.Prune(c, active)
		if len(left) == 0 {
			left = chain.Fresh()
		}
		who := slices.Clone(active)
		later := int64(0)
		for _, v := range c {
			later = max(later, v.Read)
			if !v.Done {
				who = append(who, v.Ts)
			}
		}
		for _, ts := range active {
			later = max(later, ts)
		}
		who = append(who, later+1, later+2, later+5)
		whole, start := c, left
		for range 30 {
			ts, val := who[random.Intn(len(who))], string(rune('A'+random.Intn(26)))
			if random.Intn(2) == 0 {
				var was, is chain.Ver
				c, was = chain.Read(c, ts)
				left, is = chain.Read(left, ts)
				if was.Val != is.Val {
					t.Fatalf("%d reads %q, and should %q: %+v was left of %+v with %d", ts, is.Val, was.Val, start, whole, active)
				}
				continue
			}
			var was, is api.Errno
			c, was = chain.Write(c, ts, val)
			left, is = chain.Write(left, ts, val)
			if was != is {
				t.Fatalf("%d writes, and is told %d, not %d: %+v was left of %+v with %d", ts, is, was, start, whole, active)
			}
		}
	}
}

// P13.4: as many as there may be: for each that counts itself and what it sees, and the last one.
func TestAsManyAsThereMayBe(t *testing.T) {
	var c []chain.Ver
	for ts := range int64(30) {
		c = append(c, chain.Ver{Ts: ts, Read: ts, Val: "x", Done: ts%3 != 2})
	}
	if left := sweep.Prune(c, nil); len(left) != 20 {
		t.Errorf("%d are left", len(left))
	}
	c = append(c, done(30, 30, "x"))
	if left := sweep.Prune(c, nil); len(left) != 21 {
		t.Errorf("%d are left", len(left))
	}
	if left := sweep.Prune(c, list(2, 2, 5, 5, 8)); len(left) != 21 {
		t.Errorf("%d are left with those that count already", len(left))
	}
}

// P13.2: Sweep.

// four are four keys, with room between them, each of three versions the first of which may go.
func four() *plain {
	p := &plain{}
	for _, kind := range []int{2, 4, 6, 8} {
		p.set(key(kind, 5, 5), row(done(1, 1, "a"), done(5, 5, "b"), done(9, 9, "c")))
	}
	return p
}

func TestSweepAsWrittenOut(t *testing.T) {
	k2, k4, k6, k8 := key(2, 5, 5), key(4, 5, 5), key(6, 5, 5), key(8, 5, 5)
	for _, x := range []struct {
		from  api.Key
		batch int
		next  api.Key
		swept []api.Key
	}{
		{k4, 1, k6, []api.Key{k4}},
		{k4, 2, k8, []api.Key{k4, k6}},
		{k4, 3, k2, []api.Key{k4, k6, k8}},
		{k4, 4, k4, []api.Key{k2, k4, k6, k8}},
		{k4, 5, k4, []api.Key{k2, k4, k6, k8}},
		{k8, 1, k2, []api.Key{k8}},
		{k8, 2, k4, []api.Key{k2, k8}},
		{k8, 4, k8, []api.Key{k2, k4, k6, k8}},
		{k2, 1, k4, []api.Key{k2}},
		{k2, 4, k2, []api.Key{k2, k4, k6, k8}},
		{key(4, 5, 6), 1, k8, []api.Key{k6}},
		{key(4, 6, 0), 1, k8, []api.Key{k6}},
		{key(5, 0, 0), 2, k2, []api.Key{k6, k8}},
		{key(4, 5, 4), 1, k6, []api.Key{k4}},
		{key(4, 4, 9), 1, k6, []api.Key{k4}},
		{key(3, 9, 9), 1, k6, []api.Key{k4}},
		{api.Key{}, 1, k4, []api.Key{k2}},
		{key(math.MinInt, 0, 0), 2, k6, []api.Key{k2, k4}},
		{key(8, 5, 6), 1, k4, []api.Key{k2}},
		{key(9, 0, 0), 2, k6, []api.Key{k2, k4}},
		{key(9, 0, 0), 4, k2, []api.Key{k2, k4, k6, k8}},
		{key(math.MaxInt, math.MaxInt, math.MaxInt), 3, k8, []api.Key{k2, k4, k6}},
		{key(9, 0, 0), math.MaxInt, k2, []api.Key{k2, k4, k6, k8}},
		{k6, math.MaxInt, k6, []api.Key{k2, k4, k6, k8}},
	} {
		p := four()
		c := p.made()
		wantSweep(t, c, list(6), x.from, x.batch, x.next, len(x.swept))
		for i, k := range p.keys {
			if slices.Contains(x.swept, k) {
				p.chains[i] = p.chains[i][1:]
			}
		}
		wantCells(t, fmt.Sprint("swept from ", x.from, ", ", x.batch), c, p)
	}
}

// P13.2: a batch of 0 or below, and where there are no Keys.
func TestSweepOfNothing(t *testing.T) {
	for _, from := range []api.Key{{}, key(4, 5, 5), key(3, 1, 1), key(9, 9, 9), key(math.MinInt, -1, math.MaxInt)} {
		p := four()
		c := p.made()
		for _, batch := range []int{0, -1, -4, math.MinInt32, math.MinInt + 1, math.MinInt} {
			wantSweep(t, c, list(6), from, batch, from, 0)
			wantSweep(t, c, nil, from, batch, from, 0)
			wantCells(t, "nothing swept", c, p)
		}
		var none *cells.Cells
		for _, batch := range []int{math.MinInt, -1, 0, 1, 2, math.MaxInt} {
			for _, active := range [][]int64{nil, {6}, {least, greatest}} {
				wantSweep(t, none, active, from, batch, from, 0)
				fresh := cells.New()
				wantSweep(t, fresh, active, from, batch, from, 0)
				wantCells(t, "new", fresh, &plain{}, from)
			}
		}
	}
	c := cells.New()
	c.Set(key(1, 1, 1), example())
	c.Set(key(1, 1, 1), nil)
	wantSweep(t, c, nil, key(1, 1, 1), 9, key(1, 1, 1), 0)
}

// P13.2: a chain of which nothing is said any more had as many versions as it had; the key behind is told as keys were ahead.
func TestSweepOfChainsThatAreGone(t *testing.T) {
	blank := row(done(0, 0, "a"), done(3, 3, "b"), done(5, 7, ""))
	k1, k2, k3 := key(1, 0, 0), key(2, 0, 0), key(3, 0, 0)
	three := func() *plain {
		p := &plain{}
		p.set(k1, blank)
		p.set(k2, chain.Fresh())
		p.set(k3, row(done(1, 1, "x")))
		return p
	}
	c := three().made()
	wantSweep(t, c, nil, k1, 1, k2, 3)
	wantCells(t, "the first one", c, &plain{keys: []api.Key{k2, k3}, chains: [][]chain.Ver{chain.Fresh(), row(done(1, 1, "x"))}}, k1)
	wantSweep(t, c, nil, k2, 1, k3, 1)
	wantCells(t, "two", c, &plain{keys: []api.Key{k3}, chains: [][]chain.Ver{row(done(1, 1, "x"))}}, k1, k2)
	wantSweep(t, c, nil, k3, 1, k3, 0)
	// From a key that goes on to itself, round and round.
	c = three().made()
	wantSweep(t, c, nil, k1, 3, k1, 4)
	wantSweep(t, c, nil, k1, 3, k3, 0)
	// The first one of all, which is gone by the same call.
	c = three().made()
	wantSweep(t, c, list(9), k3, 3, k3, 4)
	c = three().made()
	wantSweep(t, c, list(9), k2, 3, k2, 4)
	// What one that is active has read, or may yet write below, stays.
	c = three().made()
	wantSweep(t, c, list(7), k1, 3, k1, 3)
	wantCells(t, "with 7", c, &plain{keys: []api.Key{k1, k3}, chains: [][]chain.Ver{row(done(5, 7, "")), row(done(1, 1, "x"))}}, k2)
	// All of them.
	c = cells.New()
	c.Set(k1, blank)
	c.Set(k2, blank)
	wantSweep(t, c, nil, k2, 2, k2, 6)
	wantCells(t, "all gone", c, &plain{}, k1, k2)
	wantSweep(t, c, nil, k2, 2, k2, 0)
}

// P13.2: one key alone is behind itself.
func TestSweepOfOneKey(t *testing.T) {
	k := key(4, 5, 5)
	for _, from := range append(besideKeys([]api.Key{k}), api.Key{}, key(99, 0, 0)) {
		for _, batch := range []int{1, 2, 7, math.MaxInt} {
			c := cells.New()
			c.Set(k, example())
			wantSweep(t, c, list(10), from, batch, k, 2)
			wantCells(t, "one", c, &plain{keys: []api.Key{k}, chains: [][]chain.Ver{example()[2:]}})
			wantSweep(t, c, list(10), from, batch, k, 0)
		}
	}
}

// P13.2: from every key and every one beside, of every batch.
func TestSweepFromEverywhere(t *testing.T) {
	actives := [][]int64{nil, {10}, {0}, {9, 2, 9}, {least, greatest}}
	p := some()
	batches := []int{math.MinInt, -1, 0, len(p.keys) + 1, 1 << 40, math.MaxInt - 1, math.MaxInt}
	for n := range len(p.keys) + 1 {
		batches = append(batches, n)
	}
	for _, from := range besideKeys(p.keys) {
		for _, batch := range batches {
			for _, active := range actives {
				q := p.clone()
				stepSweep(t, q.made(), q, active, from, batch)
			}
		}
		if t.Failed() {
			return
		}
	}
}

// P13.2 and P13.3: on and on from where it was told to go on, while cells are read and written, committed and aborted.
func TestSweptOnAndOn(t *testing.T) {
	random := rand.New(rand.NewSource(3))
	for range 60 {
		c, from, ts := cells.New(), api.Key{}, int64(0)
		var active []int64
		for range 120 {
			k := key(random.Intn(3), random.Intn(3), 0)
			switch random.Intn(6) {
			case 0:
				ts++
				active = append(active, ts)
			case 1:
				if len(active) > 0 {
					at := random.Intn(len(active))
					c.Commit(active[at])
					active = slices.Delete(active, at, at+1)
				}
			case 2:
				if len(active) > 0 {
					c.Write(k, active[random.Intn(len(active))], []string{"", "x", "y"}[random.Intn(3)])
				}
			case 3:
				if len(active) > 0 {
					c.Read(k, active[random.Intn(len(active))])
				}
			case 4:
				if len(active) > 0 && random.Intn(3) == 0 {
					c.Abort(active[0])
					active = active[1:]
				}
			default:
				from = sweepOnce(t, c, active, from, random.Intn(7)-1)
			}
		}
	}
}

// sweepOnce sweeps cells, and holds what is told against a plain of the same chains; what is committed last stays.
func sweepOnce(t *testing.T, c *cells.Cells, active []int64, from api.Key, batch int) api.Key {
	t.Helper()
	p := &plain{keys: c.Keys()}
	for _, k := range p.keys {
		p.chains = append(p.chains, c.Chain(k))
	}
	was := c.Newest()
	next := stepSweep(t, c, p, active, from, batch)
	if now := c.Newest(); !slices.Equal(now, was) {
		t.Errorf("Newest() = %+v, and was %+v", now, was)
	}
	return next
}

// P13.3: as often as it takes to go round, each chain is Prune's, from wherever it begins.
func TestSweptRound(t *testing.T) {
	p := some()
	for _, active := range [][]int64{nil, {10}, {0, 1}, {last}, {30, 7}} {
		want := p.clone()
		for i, l := range want.chains {
			want.chains[i] = plainPrune(l, active)
		}
		want.tidy()
		newest := p.made().Newest()
		for _, first := range besideKeys(p.keys) {
			for _, batch := range []int{1, 2, 4, len(p.keys) - 1, len(p.keys), len(p.keys) + 1} {
				c, from, fewer := p.made(), first, 0
				for swept := 0; swept < len(p.keys); swept += batch {
					var n int
					from, n = sweep.Sweep(c, active, from, batch)
					fewer += n
				}
				wantCells(t, fmt.Sprint("from ", first, " by ", batch, " with ", active), c, want, p.keys...)
				if now := c.Newest(); !slices.Equal(now, newest) {
					t.Errorf("Newest() = %+v, and was %+v", now, newest)
				}
				if all := versions(p) - versions(want); fewer != all {
					t.Errorf("%d versions fewer, not %d", fewer, all)
				}
				if _, n := sweep.Sweep(c, active, first, len(p.keys)); n != 0 {
					t.Errorf("swept round, and once more: %d fewer", n)
				}
			}
		}
	}
}

func versions(p *plain) int {
	many := 0
	for _, l := range p.chains {
		many += len(l)
	}
	return many
}

// R3.

// TestWhatIsToldIsTheCallersOwn turns what was told, up to its capacity.
func TestWhatIsToldIsTheCallersOwn(t *testing.T) {
	for _, c := range append(mayBe(), example()) {
		roomy := append(make([]chain.Ver, 0, len(c)+9), c...)
		for _, handed := range [][]chain.Ver{c, roomy} {
			for _, active := range [][]int64{nil, {10}, {0}, {1, 5, 9, 12}, {greatest}} {
				was := slices.Clone(handed[:cap(handed)])
				one, two := sweep.Prune(handed, active), sweep.Needed(handed, active)
				if !slices.Equal(handed[:cap(handed)], was) {
					t.Fatalf("%+v is %+v then", was, handed[:cap(handed)])
				}
				other, another := sweep.Prune(handed, active), sweep.Needed(handed, active)
				spoil(one[:cap(one)], open(-5, -6, "written to"))
				spoil(two[:cap(two)], true)
				if !slices.Equal(handed[:cap(handed)], was) {
					t.Fatalf("%+v is %+v behind what was told", was, handed[:cap(handed)])
				}
				if !slices.Equal(other, plainPrune(c, active)) || !slices.Equal(another, plainNeeded(c, active)) {
					t.Fatalf("what another call told of %+v is %+v, %t", c, other, another)
				}
			}
		}
	}
}

func spoil[T any](row []T, with T) {
	for i := range row {
		row[i] = with
	}
}

// TestActiveStaysAsItIs is of rows that don't rise, with room.
func TestActiveStaysAsItIs(t *testing.T) {
	active := append(make([]int64, 0, 20), 10, 3, 10, -1, greatest, 0)
	was := slices.Clone(active[:cap(active)])
	sweep.Needed(example(), active)
	sweep.Prune(example(), active)
	c := four().made()
	sweep.Sweep(c, active, api.Key{}, 3)
	if !slices.Equal(active[:cap(active)], was) {
		t.Errorf("active is %d then", active[:cap(active)])
	}
	kept := c.Chain(key(2, 5, 5))
	spoil(active, 99)
	if now := c.Chain(key(2, 5, 5)); !slices.Equal(now, kept) {
		t.Errorf("the chain is %+v, and was %+v", now, kept)
	}
}

// R4: whatever else was asked between, the same is told.
func TestTheSameAgainAndAgain(t *testing.T) {
	random := rand.New(rand.NewSource(4))
	c := row(done(1, 4, "a"), open(5, 8, "b"), done(9, 11, "c"), done(10, 10, ""), open(12, 12, "d"))
	for range 200 {
		wantNeeded(t, c, list(3), true, true, false, true, true)
		wantPrune(t, c, list(3), c[0], c[1], c[3], c[4])
		p := some()
		wantSweep(t, p.made(), list(10), key(9, 0, 0), 4, key(math.MinInt, 0, 0), 2)
		other := chance(random, 9)
		sweep.Needed(other, list(random.Int63()))
		sweep.Prune(other, list(random.Int63()))
		sweep.Sweep(p.made(), list(random.Int63()), api.Key{}, random.Intn(9))
	}
}

// P1: whatever is asked of whatever chain.
func FuzzSweep(f *testing.F) {
	f.Add(int64(10), "x", []byte("\x01\x01\x01\x05\x05\x01\x09\x09\x01\x0c\x0c\x01"), []byte("\x01\x05"), 1)
	f.Add(int64(5), "", []byte("\x00\x09\x01\x0c\x0c\x00"), []byte{}, 0)
	f.Add(int64(least), "x", []byte("\xff\xff\x01"), []byte("\xff"), -1)
	f.Add(int64(greatest), "x", []byte("\x00\x00\x03\x05\x05\x02"), []byte("\x00"), math.MaxInt)
	f.Add(int64(0), "", []byte{}, []byte{}, math.MinInt)
	f.Fuzz(func(t *testing.T, ts int64, val string, b, near []byte, batch int) {
		active := list(ts)
		for _, n := range near {
			active = append(active, int64(int8(n)), ts+int64(int8(n)))
		}
		var c []chain.Ver
		p := &plain{}
		for ; len(b) >= 3 && len(c) < 40; b = b[3:] {
			v := chain.Ver{Ts: int64(int8(b[0])), Read: int64(int8(b[1])), Val: val[:int(b[0])%(len(val)+1)], Done: b[2]&1 != 0}
			if b[2]&2 != 0 {
				v.Ts, v.Read = v.Ts<<32, v.Read<<32
			}
			c = append(c, v)
			if k := key(int(b[2]>>2), int(b[1]), 0); chain.May(c) && !slices.Contains(p.keys, k) {
				p.set(k, slices.Clone(c))
			}
		}
		wantPlain(t, c, active)
		if chain.May(c) {
			wantFollows(t, c, sweep.Prune(c, active), active, append(beside(c), active...))
		}
		stepSweep(t, p.made(), p, active, key(int(ts%64), len(near), 0), batch)
	})
}

func parsed(t *testing.T) *ast.File {
	t.Helper()
	file, err := parser.ParseFile(token.NewFileSet(), "sweep.go", nil, 0)
	if err != nil {
		t.Fatal(err)
	}
	return file
}

// Ways: Needed marks versions by a function that is made inside it, and called there.
func TestVersionsAreMarkedByAClosure(t *testing.T) {
	made, called := map[string]bool{}, false
	for _, d := range parsed(t).Decls {
		f, ok := d.(*ast.FuncDecl)
		if !ok || f.Name.Name != "Needed" {
			continue
		}
		ast.Inspect(f, func(n ast.Node) bool {
			switch n := n.(type) {
			case *ast.AssignStmt:
				if name, ok := n.Lhs[0].(*ast.Ident); ok {
					if fun, ok := n.Rhs[0].(*ast.FuncLit); ok {
						made[name.Name] = marks(fun)
					}
				}
			case *ast.CallExpr:
				name, ok := n.Fun.(*ast.Ident)
				called = called || ok && made[name.Name]
			}
			return true
		})
	}
	if !called {
		t.Error("Needed marks by no closure")
	}
}

// marks is whether a function sets a place of something to true.
func marks(f *ast.FuncLit) bool {
	found := false
	ast.Inspect(f, func(n ast.Node) bool {
		if set, ok := n.(*ast.AssignStmt); ok {
			_, at := set.Lhs[0].(*ast.IndexExpr)
			to, ok := set.Rhs[0].(*ast.Ident)
			found = found || at && ok && to.Name == "true"
		}
		return true
	})
	return found
}

// R4 and R6: the package keeps nothing from call to call, and calls chain and cells alone.
func TestSweepCallsChainAndCellsAlone(t *testing.T) {
	file := parsed(t)
	for _, i := range file.Imports {
		p := strings.Trim(i.Path.Value, `"`)
		if strings.HasPrefix(p, "ogive/") && !slices.Contains([]string{"ogive/api", "ogive/chain", "ogive/cells"}, p) {
			t.Errorf("sweep imports %s", p)
		}
	}
	for _, d := range file.Decls {
		if g, ok := d.(*ast.GenDecl); ok && g.Tok == token.VAR {
			t.Error("sweep has a variable at package level")
		}
	}
}
