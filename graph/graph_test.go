package graph_test

import (
	"go/ast"
	"go/parser"
	"go/token"
	"math"
	"math/rand"
	"slices"
	"strings"
	"testing"

	"ogive/api"
	"ogive/graph"
)

// The kinds, types and limits are written out, as no test should hang on another package's number.
const (
	kNode, kOut, kIn, kProp, kLabel, kIndex, kCount = 1, 2, 3, 4, 5, 6, 7

	tNone, tInt, tText, tBool = 0, 1, 2, 3

	nodes, labels, properties, maxText = 16, 4, 4, 16
)

// numbers are what a key's Kind, A and B are put together of.
var numbers = []int{math.MinInt, -1 << 32, -256, -2, -1, 0, 1, 2, 7, 8, 15, 16, 255, 256, 1<<32 + 1, math.MaxInt}

func key(kind, a, b int) api.Key { return api.Key{Kind: kind, A: a, B: b} }

func cell(kind, a, b int, v string) api.Write { return api.Write{K: key(kind, a, b), V: v} }

func number(n int64) api.Val { return api.Val{T: tInt, N: n} }

func text(s string) api.Val { return api.Val{T: tText, S: s} }

func whether(n int64) api.Val { return api.Val{T: tBool, N: n} }

func entry(v api.Val, id int) graph.Entry { return graph.Entry{V: v, Id: id} }

func entries(l ...graph.Entry) []graph.Entry { return l }

func ids(l ...int) []int { return l }

// edgeKeys are all keys of numbers beside edges.
func edgeKeys() []api.Key {
	var all []api.Key
	for _, kind := range numbers {
		for _, a := range numbers {
			for _, b := range numbers {
				all = append(all, key(kind, a, b))
			}
		}
	}
	return all
}

// What follows is the words of chapters 1, 3 and 14, with no thought of cost.

// plainBytes is a number's lowest bytes, so many, the highest first.
func plainBytes(n uint64, many int) string {
	b := make([]byte, many)
	for i := range b {
		b[i] = byte(n >> (8 * (many - 1 - i)))
	}
	return string(b)
}

func plainNum(n int) string { return plainBytes(uint64(n), 4) }

func plainIds(l ...int) string {
	s := ""
	for _, n := range l {
		s += plainNum(n)
	}
	return s
}

func plainPut(v api.Val) string {
	first := "\xff"
	if v.T >= 0 && v.T <= 255 {
		first = string([]byte{byte(v.T)})
	}
	switch v.T {
	case tInt, tBool:
		return first + plainBytes(uint64(v.N)+1<<63, 8)
	case tText:
		return first + strings.ReplaceAll(v.S, "\x00", "\x00\xff") + "\x00\x01"
	}
	return first
}

func plainEntries(l ...graph.Entry) string {
	s := ""
	for _, x := range l {
		s += plainPut(x.V) + plainNum(x.Id)
	}
	return s
}

func plainMay(v api.Val) bool {
	switch v.T {
	case tNone:
		return v.N == 0 && v.S == ""
	case tInt:
		return v.S == ""
	case tText:
		return v.N == 0 && len(v.S) <= maxText
	case tBool:
		return (v.N == 0 || v.N == 1) && v.S == ""
	}
	return false
}

// plainAhead is whether a value is ahead of another one.
func plainAhead(a, b api.Val) bool {
	if a.T != b.T {
		return a.T < b.T
	}
	if a.N != b.N {
		return a.N < b.N
	}
	return a.S < b.S
}

// plainLess is whether a key is ahead of another one.
func plainLess(a, b api.Key) bool {
	if a.Kind != b.Kind {
		return a.Kind < b.Kind
	}
	if a.A != b.A {
		return a.A < b.A
	}
	return a.B < b.B
}

// plainIsRow is whether numbers are a row of numbers.
func plainIsRow(l []int) bool {
	for i, n := range l {
		if n < 0 || n > 15 || i > 0 && n <= l[i-1] {
			return false
		}
	}
	return true
}

// plainIsEntries is whether entries are a row of entries.
func plainIsEntries(l []graph.Entry) bool {
	for i, x := range l {
		if x.Id < 0 || x.Id > 15 || !plainMay(x.V) || x.V.T == tNone {
			return false
		}
		if i > 0 && plainAhead(x.V, l[i-1].V) || i > 0 && x.V == l[i-1].V && x.Id <= l[i-1].Id {
			return false
		}
	}
	return true
}

// plainNumber is the number that a text's first four bytes are.
func plainNumber(s string) int {
	n := 0
	for i := range 4 {
		n = n*256 + int(s[i])
	}
	return n
}

// plainRow is the row of numbers whose Ids a text is.
func plainRow(s string) ([]int, bool) {
	if len(s)%4 != 0 {
		return nil, false
	}
	var l []int
	for ; s != ""; s = s[4:] {
		l = append(l, plainNumber(s))
	}
	return l, plainIsRow(l)
}

// plainValue is a value of which a text may begin with the Put, and it does, if there is any.
func plainValue(s string) (api.Val, bool) {
	if s == "" {
		return api.Val{}, false
	}
	v := api.Val{T: int(s[0])}
	switch {
	case v.T == tText:
		inner, _, _ := strings.Cut(s[1:], "\x00\x01")
		v.S = strings.ReplaceAll(inner, "\x00\xff", "\x00")
	case (v.T == tInt || v.T == tBool) && len(s) >= 9:
		for i := range 8 {
			v.N = v.N<<8 | int64(s[1+i])
		}
		v.N ^= math.MinInt64
	}
	return v, plainMay(v) && strings.HasPrefix(s, plainPut(v))
}

// plainRowOfEntries is the row of entries whose Entries a text is.
func plainRowOfEntries(s string) ([]graph.Entry, bool) {
	var l []graph.Entry
	for s != "" {
		v, ok := plainValue(s)
		if !ok || len(s) < len(plainPut(v))+4 {
			return nil, false
		}
		s = s[len(plainPut(v)):]
		l = append(l, entry(v, plainNumber(s)))
		s = s[4:]
	}
	return l, plainIsEntries(l)
}

// A table is what each key has.
type table map[api.Key]string

func tableOf(l []api.Write) table {
	m := table{}
	for _, w := range l {
		m.put(w.K, w.V)
	}
	return m
}

func (m table) put(k api.Key, v string) {
	delete(m, k)
	if v != "" {
		m[k] = v
	}
}

// all puts each key ahead of the first one that it is ahead of.
func (m table) all() []api.Write {
	var all []api.Write
	for k, v := range m {
		at := 0
		for at < len(all) && plainLess(all[at].K, k) {
			at++
		}
		all = slices.Insert(all, at, api.Write{K: k, V: v})
	}
	return all
}

func (m table) isNode(a int) bool {
	_, there := m[key(kNode, a, 0)]
	return there
}

// row is the row that a cell of KOut or KIn has; nothing without one.
func (m table) row(kind, a int) []int {
	l, _ := plainRow(m[key(kind, a, 0)])
	return l
}

// fits is whether cells fit, word by word.
func (m table) fits() bool {
	for k, v := range m {
		if !m.fitsAlone(k, v) {
			return false
		}
	}
	for a := range nodes {
		for b := range nodes {
			if slices.Contains(m.row(kOut, a), b) != slices.Contains(m.row(kIn, b), a) {
				return false
			}
		}
	}
	for i := range labels {
		if m[key(kLabel, i, 0)] != m.ofLabel(i) {
			return false
		}
	}
	for i := range properties {
		if m[key(kIndex, i, 0)] != m.index(i) {
			return false
		}
	}
	return !m.twoAlike() && m[key(kCount, 0, 0)] == m.count()
}

// fitsAlone is what the chapter says of one cell of a kind.
func (m table) fitsAlone(k api.Key, v string) bool {
	switch k.Kind {
	case kNode:
		return k.A >= 0 && k.A < nodes && k.B == 0 && slices.Contains([]string{plainNum(0), plainNum(1), plainNum(2), plainNum(3)}, v)
	case kOut, kIn:
		l, ok := plainRow(v)
		for _, b := range l {
			ok = ok && m.isNode(b)
		}
		return m.isNode(k.A) && k.B == 0 && ok && len(l) > 0
	case kProp:
		x, ok := plainValue(v)
		return m.isNode(k.A) && k.B >= 0 && k.B < properties && ok && x.T != tNone && v == plainPut(x)
	case kLabel:
		return k.A >= 0 && k.A < labels && k.B == 0
	case kIndex:
		return k.A >= 0 && k.A < properties && k.B == 0
	}
	return k == key(kCount, 0, 0)
}

// ofLabel is the Ids of just the nodes with a label.
func (m table) ofLabel(label int) string {
	s := ""
	for a := range nodes {
		if m[key(kNode, a, 0)] == plainNum(label) {
			s += plainNum(a)
		}
	}
	return s
}

// index is the Entries of just the nodes that have a property.
func (m table) index(property int) string {
	var l []graph.Entry
	for a := range nodes {
		v, there := m[key(kProp, a, property)]
		if !there {
			continue
		}
		// A node goes ahead of the first one whose value its own is ahead of: so it is behind those with the same one.
		x, _ := plainValue(v)
		at := 0
		for at < len(l) && !plainAhead(x, l[at].V) {
			at++
		}
		l = slices.Insert(l, at, entry(x, a))
	}
	return plainEntries(l...)
}

// twoAlike is whether two nodes have one value of the property key 0.
func (m table) twoAlike() bool {
	for a := range nodes {
		for b := range a {
			v := m[key(kProp, a, 0)]
			if v != "" && v == m[key(kProp, b, 0)] {
				return true
			}
		}
	}
	return false
}

// count is what KCount ought to have.
func (m table) count() string {
	others := 0
	for k := range m {
		if k != key(kCount, 0, 0) {
			others++
		}
	}
	if others == 0 {
		return ""
	}
	return plainNum(others)
}

// A world is nodes, edges and properties, without a thought of cells.
type world struct {
	label map[int]int
	edges map[[2]int]bool
	props map[[2]int]api.Val
}

func newWorld() *world {
	return &world{label: map[int]int{}, edges: map[[2]int]bool{}, props: map[[2]int]api.Val{}}
}

// cells are the cells that fit of a world.
func (w *world) cells() []api.Write {
	m := table{}
	for a, label := range w.label {
		m.put(key(kNode, a, 0), plainNum(label))
	}
	for at, v := range w.props {
		m.put(key(kProp, at[0], at[1]), plainPut(v))
	}
	for a := range nodes {
		out, in := "", ""
		for b := range nodes {
			if w.edges[[2]int{a, b}] {
				out += plainNum(b)
			}
			if w.edges[[2]int{b, a}] {
				in += plainNum(b)
			}
		}
		m.put(key(kOut, a, 0), out)
		m.put(key(kIn, a, 0), in)
	}
	for i := range labels {
		m.put(key(kLabel, i, 0), m.ofLabel(i))
		m.put(key(kIndex, i, 0), m.index(i))
	}
	m.put(key(kCount, 0, 0), m.count())
	return m.all()
}

// values are such as may be, and aren't none, rising.
func values() []api.Val {
	return []api.Val{
		number(math.MinInt64), number(-1), number(0), number(1), number(255), number(256), number(math.MaxInt64),
		text(""), text("\x00"), text("\x00\x01"), text("\x00\xff"), text("\x01"), text("a"), text("a\x00b"), text("ab"), text("b"), text(strings.Repeat("z", maxText)), text("\xff\xff"),
		whether(0), whether(1),
	}
}

// noValues are such as may not be, or are none.
func noValues() []api.Val {
	return []api.Val{
		{}, {T: tNone, N: 1}, {T: tNone, S: "x"},
		{T: tInt, N: 1, S: "x"}, {T: tText, N: 1, S: "x"}, text(strings.Repeat("z", maxText+1)), text(strings.Repeat("\x00", maxText+1)),
		whether(2), whether(-1), whether(math.MaxInt64), whether(math.MinInt64), {T: tBool, N: 1, S: "x"},
		{T: 4}, {T: 4, N: 1, S: "x"}, {T: 255}, {T: 256}, {T: 257, N: 1}, {T: -1}, {T: -255, N: 1}, {T: math.MaxInt}, {T: math.MinInt, S: "x"},
	}
}

// example is a world with all that there may be: edges there and back, to a node itself, one value of several nodes.
func example() *world {
	w := newWorld()
	w.label = map[int]int{0: 0, 1: 1, 3: 1, 7: 3, 14: 0, 15: 1}
	for _, e := range [][2]int{{0, 1}, {1, 0}, {3, 3}, {0, 15}, {15, 3}, {7, 3}, {1, 3}} {
		w.edges[e] = true
	}
	w.props = map[[2]int]api.Val{
		{0, 0}: text("ada"), {1, 0}: text("bob"), {15, 0}: number(5), {3, 0}: whether(0), {7, 0}: whether(1),
		{0, 1}: whether(0), {1, 1}: whether(0), {3, 1}: whether(1), {14, 1}: whether(0),
		{15, 2}: number(-1), {0, 2}: number(256), {7, 2}: text("\x00"), {3, 2}: text(""),
	}
	return w
}

func labelled(pairs ...int) *world {
	w := newWorld()
	for i := 0; i < len(pairs); i += 2 {
		w.label[pairs[i]] = pairs[i+1]
	}
	return w
}

// full is the world of all nodes, all edges and all properties.
func full() *world {
	w := newWorld()
	for a := range nodes {
		w.label[a] = a / 4
		for b := range nodes {
			w.edges[[2]int{a, b}] = true
		}
		for p := range properties {
			w.props[[2]int{a, p}] = number(int64(a*7%16) - int64(p))
		}
	}
	return w
}

// randomWorld is one with nodes as densely as is said.
func randomWorld(random *rand.Rand) *world {
	w, among := newWorld(), values()
	every := random.Intn(5) + 1
	for a := range nodes {
		if random.Intn(every) == 0 {
			w.label[a] = random.Intn(labels)
		}
	}
	for a := range nodes {
		if _, there := w.label[a]; !there {
			continue
		}
		for b := range nodes {
			if _, there := w.label[b]; there && random.Intn(4) == 0 {
				w.edges[[2]int{a, b}] = true
			}
		}
		for p := range properties {
			if random.Intn(3) > 0 {
				w.props[[2]int{a, p}] = among[random.Intn(len(among))]
			}
		}
	}
	w.dropTwins()
	return w
}

// dropTwins lets no two nodes have one value of the property key 0.
func (w *world) dropTwins() {
	for a := range nodes {
		for b := range a {
			if v, there := w.props[[2]int{a, 0}]; there && v == w.props[[2]int{b, 0}] {
				delete(w.props, [2]int{a, 0})
			}
		}
	}
}

// worlds are some whose cells fit.
func worlds() map[string]*world {
	loop := labelled(5, 2)
	loop.edges[[2]int{5, 5}] = true
	pair := labelled(0, 3, 15, 3)
	pair.edges[[2]int{0, 15}] = true
	alike := labelled(2, 0, 4, 0)
	alike.props = map[[2]int]api.Val{{2, 1}: number(7), {4, 1}: number(7), {2, 3}: text("x"), {4, 3}: text("x"), {2, 0}: number(7), {4, 0}: number(8)}
	return map[string]*world{
		"nothing": newWorld(), "a node": labelled(0, 0), "the last node, and the last label": labelled(15, 3), "all nodes of a label": labelled(0, 2, 1, 2, 2, 2, 3, 2, 4, 2, 5, 2, 6, 2, 7, 2, 8, 2, 9, 2, 10, 2, 11, 2, 12, 2, 13, 2, 14, 2, 15, 2),
		"an edge to itself": loop, "an edge": pair, "two with one value": alike, "the example": example(), "all": full(),
	}
}

// wantSame holds a graph against a table, twice, since asking changes nothing: all keys that are there, and others.
func wantSame(t *testing.T, what string, g *graph.Graph, m table, others ...api.Key) {
	t.Helper()
	all := m.all()
	for range 2 {
		if got := g.All(); !slices.Equal(got, all) {
			t.Errorf("%s: All() = %+v, not %+v", what, got, all)
		}
		for _, w := range all {
			if got := g.Get(w.K); got != w.V {
				t.Errorf("%s: Get(%+v) = %q, not %q", what, w.K, got, w.V)
			}
		}
		for _, k := range others {
			if got := g.Get(k); got != m[k] {
				t.Errorf("%s: Get(%+v) = %q, not %q", what, k, got, m[k])
			}
		}
	}
}

func wantMay(t *testing.T, what string, g *graph.Graph, want bool) {
	t.Helper()
	for range 2 {
		if got := g.May(); got != want {
			t.Errorf("%s: May() = %t, not %t, of %+v", what, got, want, g.All())
		}
	}
}

// wantIds holds TakeIds of a text against a row, or against none.
func wantIds(t *testing.T, s string, want []int, ok bool) {
	t.Helper()
	e := api.OK
	if !ok {
		want, e = nil, api.ErrForm
	}
	for range 2 {
		got, gotE := graph.TakeIds(s)
		if gotE != e || !slices.Equal(got, want) {
			t.Errorf("TakeIds(%q) = %v, %d, not %v, %d", s, got, gotE, want, e)
		}
	}
}

func wantEntries(t *testing.T, s string, want []graph.Entry, ok bool) {
	t.Helper()
	e := api.OK
	if !ok {
		want, e = nil, api.ErrForm
	}
	for range 2 {
		got, gotE := graph.TakeEntries(s)
		if gotE != e || !slices.Equal(got, want) {
			t.Errorf("TakeEntries(%q) = %+v, %d, not %+v, %d", s, got, gotE, want, e)
		}
	}
}

// P14.1: New.

func TestNewAsWrittenOut(t *testing.T) {
	k, j := key(1, 2, 0), key(1, 1, 9)
	for what, l := range map[string][]api.Write{
		"nil":                         nil,
		"of no cells":                 {},
		"one":                         {{K: k, V: "x"}},
		"one that has nothing":        {{K: k, V: ""}},
		"a byte 0":                    {{K: k, V: "\x00"}},
		"two, not in order":           {{K: k, V: "x"}, {K: j, V: "y"}},
		"twice":                       {{K: k, V: "x"}, {K: k, V: "y"}},
		"twice, the same":             {{K: k, V: "x"}, {K: k, V: "x"}},
		"twice, then nothing":         {{K: k, V: "x"}, {K: k, V: ""}},
		"twice, nothing first":        {{K: k, V: ""}, {K: k, V: "x"}},
		"twice, nothing":              {{K: k, V: ""}, {K: k, V: ""}},
		"three times":                 {{K: k, V: "x"}, {K: k, V: "y"}, {K: k, V: "z"}},
		"three times, then nothing":   {{K: k, V: "x"}, {K: k, V: "y"}, {K: k, V: ""}},
		"three times, nothing first":  {{K: k, V: ""}, {K: k, V: "x"}, {K: k, V: "y"}},
		"three times, nothing within": {{K: k, V: "x"}, {K: k, V: ""}, {K: k, V: "y"}},
		"three times, others within":  {{K: k, V: "x"}, {K: j, V: "o"}, {K: k, V: ""}, {K: key(0, 0, 0), V: "p"}, {K: k, V: "y"}},
		"nothing last, others within": {{K: k, V: "x"}, {K: j, V: "o"}, {K: k, V: "y"}, {K: key(0, 0, 0), V: "p"}, {K: k, V: ""}},
		"of whatever key": {
			{K: key(math.MaxInt, math.MinInt, 1), V: "a"}, {K: key(math.MinInt, math.MaxInt, -1), V: "b"}, {K: key(0, 0, 0), V: "c"},
			{K: key(-1, -1, -1), V: "d"}, {K: key(8, 16, 4), V: "e"}, {K: key(math.MaxInt, math.MinInt, 1), V: "f"}, {K: key(8, 1<<32+16, 4), V: "g"},
		},
	} {
		wantSame(t, what, graph.New(l), tableOf(l), k, j, key(0, 0, 0), key(1, 2, 1))
	}
	g := graph.New([]api.Write{{K: k, V: "x"}, {K: j, V: "o"}, {K: k, V: "y"}})
	if got, want := g.All(), []api.Write{{K: j, V: "o"}, {K: k, V: "y"}}; !slices.Equal(got, want) {
		t.Errorf("All() = %+v, not %+v", got, want)
	}
}

// P14.1: keys beside edges, each a cell of its own.
func TestKeysBesideEdges(t *testing.T) {
	keys := edgeKeys()
	// Each comes far from those beside it: 7 and the number of keys have no divisor.
	var l []api.Write
	for i := range keys {
		k := keys[i*7%len(keys)]
		l = append(l, api.Write{K: k, V: "x" + plainNum(i*7%len(keys))})
	}
	g, put := graph.New(l), graph.New(nil)
	for _, w := range l {
		put.Put(w.K, w.V)
	}
	// The numbers rise, and so do the keys.
	for what, x := range map[string]*graph.Graph{"new": g, "put": put, "copied": g.Copy()} {
		all := x.All()
		if len(all) != len(keys) {
			t.Fatalf("%s: %d cells, not %d", what, len(all), len(keys))
		}
		for i, k := range keys {
			want := api.Write{K: k, V: "x" + plainNum(i)}
			if all[i] != want || x.Get(k) != want.V {
				t.Errorf("%s: All()[%d] = %+v, and Get(%+v) = %q, not %+v", what, i, all[i], k, x.Get(k), want)
			}
		}
		for _, k := range keys {
			x.Put(k, "")
		}
		wantSame(t, what+", and put to nothing", x, table{}, keys...)
		wantMay(t, what, x, true)
	}
}

// P14.1 and R4: each is one of its own.
func TestNewIsAnotherOne(t *testing.T) {
	k := key(1, 2, 3)
	one, two := graph.New(nil), graph.New(nil)
	one.Put(k, "x")
	wantSame(t, "the other one", two, table{}, k)
	wantSame(t, "a later one", graph.New(nil), table{}, k)
	l := []api.Write{{K: k, V: "x"}}
	one, two = graph.New(l), graph.New(l)
	one.Put(k, "y")
	wantSame(t, "the other one of the same cells", two, table{k: "x"}, k)
	wantSame(t, "a later one of the same cells", graph.New(l), table{k: "x"}, k)
}

// P14.1 and P14.3: Get and Put.

func TestPutAsWrittenOut(t *testing.T) {
	a, b := key(4, 2, 1), key(4, 1, 2)
	g, m := graph.New(nil), table{}
	for _, step := range []struct {
		what string
		k    api.Key
		v    string
		want []api.Write
	}{
		{"nothing where there is no cell", a, "", nil},
		{"a new one", a, "x", []api.Write{{K: a, V: "x"}}},
		{"the same", a, "x", []api.Write{{K: a, V: "x"}}},
		{"another text", a, "y\x00", []api.Write{{K: a, V: "y\x00"}}},
		{"another cell", b, "x", []api.Write{{K: b, V: "x"}, {K: a, V: "y\x00"}}},
		{"nothing in a third one", key(4, 2, 2), "", []api.Write{{K: b, V: "x"}, {K: a, V: "y\x00"}}},
		{"nothing", a, "", []api.Write{{K: b, V: "x"}}},
		{"nothing again", a, "", []api.Write{{K: b, V: "x"}}},
		{"anew", a, "z", []api.Write{{K: b, V: "x"}, {K: a, V: "z"}}},
		{"nothing in the other one", b, "", []api.Write{{K: a, V: "z"}}},
		{"a long one", a, strings.Repeat("long", 3000), []api.Write{{K: a, V: strings.Repeat("long", 3000)}}},
		{"nothing at the end", a, "", nil},
	} {
		g.Put(step.k, step.v)
		m.put(step.k, step.v)
		if got := g.All(); !slices.Equal(got, step.want) {
			t.Errorf("%s: All() = %+v, not %+v", step.what, got, step.want)
		}
		wantSame(t, step.what, g, m, a, b, key(4, 2, 2), key(1, 2, 4), api.Key{})
	}
}

// P14.3: what is put is got; others are as they were; put back as it was, the graph is as it was.
func TestWhatIsPutIsGot(t *testing.T) {
	keys := edgeKeys()
	for what, w := range worlds() {
		l := w.cells()
		g, m := graph.New(l), tableOf(l)
		for i, k := range keys {
			if i%9 != 0 && m[k] == "" {
				continue
			}
			for _, v := range []string{"x", "\x00", plainNum(i), "", m[k]} {
				g.Put(k, v)
				changed := tableOf(l)
				changed.put(k, v)
				if got, want := g.All(), changed.all(); !slices.Equal(got, want) || g.Get(k) != v {
					t.Fatalf("%s: behind Put(%+v, %q) All() = %+v, not %+v; Get is %q", what, k, v, got, want, g.Get(k))
				}
			}
		}
		wantSame(t, what, g, m, keys...)
		wantMay(t, what, g, true)
	}
}

// P14.1 and P14.3: whatever is put, in whatever order.
func TestWhateverIsPut(t *testing.T) {
	random := rand.New(rand.NewSource(1))
	texts := []string{"", "", "x", "y", "\x00", plainNum(1), plainIds(1, 2)}
	for range 200 {
		g, m := graph.New(nil), table{}
		for range 60 {
			k := key(random.Intn(9)-1, random.Intn(3)-1, random.Intn(2))
			if random.Intn(20) == 0 {
				k.A = numbers[random.Intn(len(numbers))]
			}
			v := texts[random.Intn(len(texts))]
			g.Put(k, v)
			m.put(k, v)
			wantSame(t, "put", g, m, k)
			if random.Intn(10) == 0 {
				g = g.Copy()
			}
		}
		wantSame(t, "new", graph.New(g.All()), m)
	}
}

// P14.1: Copy.

func TestCopyIsAnotherOne(t *testing.T) {
	k, j, other := key(1, 2, 0), key(3, 1, 0), key(9, 9, 9)
	l := []api.Write{{K: k, V: "x"}, {K: j, V: "y"}}
	g := graph.New(l)
	c := g.Copy()
	wantSame(t, "the copy", c, tableOf(l), other)
	c.Put(k, "z")
	c.Put(j, "")
	c.Put(other, "o")
	wantSame(t, "what was copied", g, tableOf(l), other)
	wantSame(t, "the copy that was put to", c, table{k: "z", other: "o"}, j)
	d := c.Copy()
	c.Put(other, "")
	c.Put(j, "w")
	wantSame(t, "the copy's copy", d, table{k: "z", other: "o"}, j)
	wantSame(t, "the first copy", c, table{k: "z", j: "w"}, other)
	g.Put(k, "")
	wantSame(t, "the copy's copy, at the end", d, table{k: "z", other: "o"}, j)
	wantSame(t, "the first one", g, table{j: "y"}, k, other)
}

func TestCopyOfNothing(t *testing.T) {
	g := graph.New(nil)
	c := g.Copy()
	if c == nil {
		t.Fatal("no copy of a graph without cells")
	}
	c.Put(key(1, 2, 3), "x")
	wantSame(t, "the copy", c, table{key(1, 2, 3): "x"})
	wantSame(t, "what was copied", g, table{}, key(1, 2, 3))
	emptied := graph.New([]api.Write{cell(1, 2, 3, "x"), cell(1, 2, 3, "")}).Copy()
	emptied.Put(key(1, 2, 4), "y")
	wantSame(t, "a copy without cells", emptied, table{key(1, 2, 4): "y"}, key(1, 2, 3))
}

// P14.1: a Graph that is nil.
func TestNilGraph(t *testing.T) {
	var g *graph.Graph
	for range 2 {
		for _, k := range edgeKeys() {
			g.Put(k, "x")
			g.Put(k, "")
			if got := g.Get(k); got != "" {
				t.Errorf("Get(%+v) = %q", k, got)
			}
		}
		if got := g.All(); len(got) != 0 {
			t.Errorf("All() = %+v", got)
		}
		if got := g.Copy(); got != nil {
			t.Errorf("Copy() = %+v", got)
		}
		if g.May() {
			t.Error("May() = true")
		}
	}
}

// P14.2: Ids.

func TestIdsAsWrittenOut(t *testing.T) {
	for _, x := range []struct {
		l    []int
		want string
	}{
		{nil, ""},
		{ids(), ""},
		{ids(0), "\x00\x00\x00\x00"},
		{ids(2, 5), "\x00\x00\x00\x02\x00\x00\x00\x05"},
		{ids(5, 2, 5), "\x00\x00\x00\x05\x00\x00\x00\x02\x00\x00\x00\x05"},
		{ids(15, 16), "\x00\x00\x00\x0f\x00\x00\x00\x10"},
		{ids(0x01020304), "\x01\x02\x03\x04"},
		{ids(-1), "\xff\xff\xff\xff"},
		{ids(-2, 1), "\xff\xff\xff\xfe\x00\x00\x00\x01"},
		{ids(math.MaxInt32, math.MinInt32), "\x7f\xff\xff\xff\x80\x00\x00\x00"},
		{ids(1<<32-1, 1<<32, 1<<32+1), "\xff\xff\xff\xff\x00\x00\x00\x00\x00\x00\x00\x01"},
		{ids(-1<<32, -1<<32-1), "\x00\x00\x00\x00\xff\xff\xff\xff"},
		{ids(math.MaxInt, math.MinInt), "\xff\xff\xff\xff\x00\x00\x00\x00"},
	} {
		was := slices.Clone(x.l)
		for range 2 {
			if got := graph.Ids(x.l); got != x.want {
				t.Errorf("Ids(%v) = %q, not %q", was, got, x.want)
			}
		}
		if !slices.Equal(x.l, was) {
			t.Errorf("what was handed in is %v now, and was %v", x.l, was)
		}
	}
}

// P14.2: TakeIds.

func TestTakeIdsAsWrittenOut(t *testing.T) {
	for _, x := range []struct {
		s    string
		want []int
		ok   bool
	}{
		{"", nil, true},
		{plainIds(0), ids(0), true},
		{plainIds(15), ids(15), true},
		{plainIds(2, 5), ids(2, 5), true},
		{plainIds(0, 1, 2, 3, 4, 5, 6, 7, 8, 9, 10, 11, 12, 13, 14, 15), ids(0, 1, 2, 3, 4, 5, 6, 7, 8, 9, 10, 11, 12, 13, 14, 15), true},
		{plainIds(5, 2), nil, false},
		{plainIds(0, 0), nil, false},
		{plainIds(15, 15), nil, false},
		{plainIds(1, 3, 3), nil, false},
		{plainIds(1, 3, 2), nil, false},
		{plainIds(1, 3, 0), nil, false},
		{plainIds(1, 3, 2, 7), nil, false},
		{plainIds(16), nil, false},
		{plainIds(17), nil, false},
		{plainIds(3, 16), nil, false},
		{plainIds(255), nil, false},
		{plainIds(256), nil, false},
		{plainIds(1 << 24), nil, false},
		{plainIds(1 << 31), nil, false},
		{plainIds(1<<31 + 1), nil, false},
		{plainIds(-1), nil, false},
		{plainIds(-16), nil, false},
		{plainIds(3, -1), nil, false},
		{"\x00", nil, false},
		{"\x00\x00\x00", nil, false},
		{"\x00\x00\x01", nil, false},
		{plainIds(2, 5) + "\x00", nil, false},
		{plainIds(2, 5) + "\x00\x00\x00", nil, false},
		{plainIds(2, 5)[:7], nil, false},
		{plainIds(2, 5)[1:], nil, false},
		{"\x02\x00\x00\x00", nil, false},
		{"x", nil, false},
		{"text", nil, false},
	} {
		wantIds(t, x.s, x.want, x.ok)
		if l, ok := plainRow(x.s); ok != x.ok || ok && !slices.Equal(l, x.want) {
			t.Errorf("the plain row of %q is %v, %t", x.s, l, ok)
		}
	}
}

// P14.2: all rows of up to three numbers, rows or not, and with a byte less or more.
func TestTakeIdsOfEveryShortRow(t *testing.T) {
	among := ids(-1, 0, 1, 2, 3, 7, 8, 14, 15, 16, 17, 255, 256, 1<<16, 1<<31, 1<<32-1)
	rows := [][]int{nil}
	for first := 0; len(rows[len(rows)-1]) < 3; {
		next := len(rows)
		for _, l := range rows[first:next] {
			for _, n := range among {
				rows = append(rows, append(slices.Clone(l), n))
			}
		}
		first = next
	}
	for _, l := range rows {
		s := graph.Ids(l)
		if s != plainIds(l...) {
			t.Errorf("Ids(%v) = %q", l, s)
		}
		wantIds(t, s, l, plainIsRow(l))
		wantIds(t, s+"\x00", nil, false)
		if s != "" {
			wantIds(t, s[1:], nil, false)
			wantIds(t, s[:len(s)-1], nil, false)
		}
	}
}

// P14.3: rows are told there and back, for all sets of numbers.
func TestEveryRowThereAndBack(t *testing.T) {
	among := values()
	for set := range 1 << nodes {
		var l []int
		var same, rising, some []graph.Entry
		for n := range nodes {
			if set&(1<<n) == 0 {
				continue
			}
			l = append(l, n)
			same = append(same, entry(among[set%len(among)], n))
			rising = append(rising, entry(among[n], nodes-1-n))
			some = append(some, entry(among[(n/3+set)%3*2+n/3], n))
		}
		if got, e := graph.TakeIds(graph.Ids(l)); e != api.OK || !slices.Equal(got, l) {
			t.Fatalf("of %v there is %v, %d", l, got, e)
		}
		for _, x := range [][]graph.Entry{same, rising, some} {
			got, e := graph.TakeEntries(graph.Entries(x))
			if ok := plainIsEntries(x); ok != (e == api.OK) || ok && !slices.Equal(got, x) || !ok && len(got) != 0 {
				t.Fatalf("of %+v there is %+v, %d", x, got, e)
			}
		}
		if !plainIsEntries(same) || !plainIsEntries(rising) {
			t.Fatalf("%+v or %+v is no row", same, rising)
		}
	}
}

// P14.2: Entries.

func TestEntriesAsWrittenOut(t *testing.T) {
	for _, x := range []struct {
		l    []graph.Entry
		want string
	}{
		{nil, ""},
		{entries(), ""},
		{entries(entry(number(1), 4)), "\x01\x80\x00\x00\x00\x00\x00\x00\x01\x00\x00\x00\x04"},
		{entries(entry(number(-1), 15), entry(text("a\x00"), 0)), "\x01\x7f\xff\xff\xff\xff\xff\xff\xff\x00\x00\x00\x0f\x02a\x00\xff\x00\x01\x00\x00\x00\x00"},
		{entries(entry(whether(1), 2), entry(whether(1), 2)), "\x03\x80\x00\x00\x00\x00\x00\x00\x01\x00\x00\x00\x02\x03\x80\x00\x00\x00\x00\x00\x00\x01\x00\x00\x00\x02"},
		{entries(entry(text(""), 1)), "\x02\x00\x01\x00\x00\x00\x01"},
		{entries(entry(api.Val{}, 3)), "\x00\x00\x00\x00\x03"},
		{entries(entry(api.Val{N: 5, S: "x"}, 3)), "\x00\x00\x00\x00\x03"},
		{entries(entry(api.Val{T: 4, N: 5, S: "x"}, 3), entry(api.Val{T: -1}, -1)), "\x04\x00\x00\x00\x03\xff\xff\xff\xff\xff"},
		{entries(entry(api.Val{T: 256}, 1<<32+9), entry(api.Val{T: 254}, 1<<32-1)), "\xff\x00\x00\x00\x09\xfe\xff\xff\xff\xff"},
		{entries(entry(whether(7), math.MinInt), entry(api.Val{T: tText, N: 3, S: "b"}, math.MaxInt)), "\x03\x80\x00\x00\x00\x00\x00\x00\x07\x00\x00\x00\x00\x02b\x00\x01\xff\xff\xff\xff"},
		{entries(entry(text(strings.Repeat("z", 20)), -16)), "\x02" + strings.Repeat("z", 20) + "\x00\x01\xff\xff\xff\xf0"},
	} {
		was := slices.Clone(x.l)
		for range 2 {
			if got := graph.Entries(x.l); got != x.want {
				t.Errorf("Entries(%+v) = %q, not %q", was, got, x.want)
			}
		}
		if !slices.Equal(x.l, was) {
			t.Errorf("what was handed in is %+v now, and was %+v", x.l, was)
		}
		if got := plainEntries(x.l...); got != x.want {
			t.Errorf("the plain entries of %+v are %q, not %q", was, got, x.want)
		}
	}
}

// P14.2: TakeEntries.

func TestTakeEntriesAsWrittenOut(t *testing.T) {
	long := text(strings.Repeat("z", maxText))
	for what, l := range map[string][]graph.Entry{
		"none":                      nil,
		"a number":                  entries(entry(number(1), 4)),
		"numbers":                   entries(entry(number(1), 4), entry(number(2), 0)),
		"one value":                 entries(entry(number(1), 4), entry(number(1), 5), entry(number(1), 15)),
		"of each type":              entries(entry(number(math.MaxInt64), 15), entry(text(""), 0), entry(text("\x00"), 15), entry(long, 0), entry(whether(0), 3), entry(whether(1), 3)),
		"a node with several":       entries(entry(number(1), 4), entry(number(2), 4), entry(text("x"), 4)),
		"the least and the highest": entries(entry(number(math.MinInt64), 0), entry(number(math.MinInt64), 15), entry(number(math.MaxInt64), 0)),
	} {
		s := plainEntries(l...)
		wantEntries(t, s, l, true)
		if got, ok := plainRowOfEntries(s); !ok || !slices.Equal(got, l) {
			t.Errorf("%s: the plain row of %q is %+v, %t", what, s, got, ok)
		}
		wantEntries(t, s+"\x00", nil, false)
		wantEntries(t, s+"\x03", nil, false)
		wantEntries(t, s+"\xff", nil, false)
		if s != "" {
			wantEntries(t, s[1:], nil, false)
			wantEntries(t, s[:len(s)-1], nil, false)
		}
	}
	for what, l := range map[string][]graph.Entry{
		"none's type":                           entries(entry(api.Val{}, 0)),
		"none's type, behind others":            entries(entry(number(1), 4), entry(api.Val{}, 5)),
		"none's type, ahead of others":          entries(entry(api.Val{}, 3), entry(number(1), 4)),
		"a long text":                           entries(entry(text(strings.Repeat("z", maxText+1)), 0)),
		"neither false nor true":                entries(entry(whether(2), 0)),
		"neither, below 0":                      entries(entry(whether(0), 0), entry(whether(-1), 1)),
		"another type":                          entries(entry(api.Val{T: 4}, 0)),
		"the last type":                         entries(entry(api.Val{T: 255}, 0)),
		"the node 16":                           entries(entry(number(1), 16)),
		"the node 16, behind others":            entries(entry(number(1), 15), entry(number(1), 16)),
		"a node beyond":                         entries(entry(number(1), 1<<31)),
		"the last node beyond":                  entries(entry(number(1), 1<<32-1)),
		"a node of a higher byte":               entries(entry(number(1), 256)),
		"the same entry twice":                  entries(entry(number(1), 4), entry(number(1), 4)),
		"the same text's twice":                 entries(entry(text("a"), 0), entry(text("a"), 0)),
		"a lower number":                        entries(entry(number(2), 0), entry(number(1), 4)),
		"a lower number, of a lower node":       entries(entry(number(2), 4), entry(number(1), 0)),
		"a number below 0":                      entries(entry(number(0), 0), entry(number(-1), 4)),
		"a lower text":                          entries(entry(text("b"), 0), entry(text("a"), 4)),
		"a text that is a part":                 entries(entry(text("ab"), 0), entry(text("a"), 4)),
		"a lower text, of a lower node":         entries(entry(text("b"), 4), entry(text("a"), 0)),
		"a lower type":                          entries(entry(text(""), 0), entry(number(9), 4)),
		"whether behind, and a text behind it":  entries(entry(whether(0), 0), entry(text("z"), 4)),
		"a lower node of the same value":        entries(entry(number(1), 4), entry(number(1), 3)),
		"a lower node of the same text":         entries(entry(text("a"), 4), entry(text("a"), 3)),
		"a lower node of the same, at the end":  entries(entry(number(0), 1), entry(number(1), 4), entry(number(1), 0)),
		"a lower value of two, at the end":      entries(entry(number(0), 1), entry(number(7), 4), entry(number(3), 9)),
		"true, then false":                      entries(entry(whether(1), 0), entry(whether(0), 1)),
		"rising, and one that may not be there": entries(entry(number(0), 1), entry(number(7), 4), entry(text(strings.Repeat("z", 99)), 9)),
	} {
		s := plainEntries(l...)
		wantEntries(t, s, nil, false)
		if got, ok := plainRowOfEntries(s); ok {
			t.Errorf("%s: the plain row of %q is %+v", what, s, got)
		}
	}
	for _, s := range []string{"\x00", "\x01", "\x02", "\x03", "\x04", "\xff", "x", "\x02a\x00\x01", "\x02a\x00\x00\x00\x01\x00\x00\x00\x01", "\x02a", "\x02a\x00", "\x02\x00\x01\x00\x00\x00", "\x00\x00\x00\x00", plainIds(3), plainIds(1, 2)} {
		wantEntries(t, s, nil, false)
	}
}

// taken is what an entry is taken as, if it is: a Put tells not all that may stand in a value.
func taken(x graph.Entry) graph.Entry {
	switch x.V.T {
	case tInt, tBool:
		x.V.S = ""
	case tText:
		x.V.N = 0
	default:
		x.V = api.Val{T: 255}
	}
	x.Id = int(uint32(x.Id))
	return x
}

// P14.2: all rows of up to two entries, rows or not, and with a byte less or more.
func TestTakeEntriesOfEveryShortRow(t *testing.T) {
	var among []graph.Entry
	for i, v := range append(values(), noValues()...) {
		for _, id := range ids(0, 1, 15, 16, 1<<32, -1) {
			if id < 15 || i%4 == 0 {
				among = append(among, entry(v, id))
			}
		}
	}
	hold := func(l ...graph.Entry) {
		t.Helper()
		s := graph.Entries(l)
		if s != plainEntries(l...) {
			t.Errorf("Entries(%+v) = %q", l, s)
		}
		var want []graph.Entry
		for _, x := range l {
			want = append(want, taken(x))
		}
		wantEntries(t, s, want, plainIsEntries(want))
	}
	hold()
	for _, x := range among {
		hold(x)
		for _, y := range among {
			hold(x, y)
		}
	}
	for _, x := range among {
		s := plainEntries(entry(number(-9), 3), x)
		for cut := range s {
			got, ok := plainRowOfEntries(s[:cut])
			wantEntries(t, s[:cut], got, ok)
			got, ok = plainRowOfEntries(s[cut:])
			wantEntries(t, s[cut:], got, ok)
		}
	}
}

// P14.2: May.

// P14.2: the chapter's example.
func TestAnEmptyGraphsCellsFit(t *testing.T) {
	wantMay(t, "an empty graph", graph.New(nil), true)
	for _, v := range []string{plainNum(0), plainNum(1), plainNum(2), "x"} {
		wantMay(t, "KCount alone", graph.New([]api.Write{cell(kCount, 0, 0, v)}), false)
	}
	emptied := graph.New(example().cells())
	for _, w := range emptied.All() {
		emptied.Put(w.K, "")
	}
	wantMay(t, "one that was emptied", emptied, true)
}

func TestWorldsCellsFit(t *testing.T) {
	for what, w := range worlds() {
		l := w.cells()
		g := graph.New(l)
		wantMay(t, what, g, true)
		wantMay(t, what+", copied", g.Copy(), true)
		wantSame(t, what, g, tableOf(l))
		if !tableOf(l).fits() {
			t.Errorf("%s: the plain table doesn't fit", what)
		}
		slices.Reverse(l)
		wantMay(t, what+", the other way round", graph.New(l), true)
	}
}

// A fault is cells that differ from those of a world, which fit.
type fault struct {
	what  string
	cells []api.Write
}

// wantFaults holds each one by one: the world's cells fit, with the fault they don't, and without it they fit again.
// KCount counts the cells with the fault, too, if it isn't a fault of KCount, so that they don't fit just for it.
func wantFaults(t *testing.T, w *world, faults []fault) {
	t.Helper()
	l := w.cells()
	for _, f := range faults {
		g, m := graph.New(l), tableOf(l)
		wantMay(t, "ahead of "+f.what, g, true)
		ofCount := false
		for _, c := range f.cells {
			if m[c.K] == c.V {
				t.Errorf("%s: no fault, as %+v has that", f.what, c.K)
			}
			g.Put(c.K, c.V)
			m.put(c.K, c.V)
			ofCount = ofCount || c.K.Kind == kCount
		}
		if !ofCount {
			g.Put(key(kCount, 0, 0), m.count())
			m.put(key(kCount, 0, 0), m.count())
		}
		wantMay(t, f.what, g, false)
		if m.fits() {
			t.Errorf("%s: the plain table fits", f.what)
		}
		for _, c := range m.all() {
			g.Put(c.K, "")
		}
		for _, c := range l {
			g.Put(c.K, c.V)
		}
		wantMay(t, "behind "+f.what, g, true)
	}
}

func faultOf(what string, cells ...api.Write) fault { return fault{what: what, cells: cells} }

func TestFaultsOfNodes(t *testing.T) {
	wantFaults(t, labelled(4, 2), []fault{
		faultOf("the node 16", cell(kNode, 16, 0, plainNum(1))),
		faultOf("the node 16, that stands in KLabel", cell(kNode, 16, 0, plainNum(1)), cell(kLabel, 1, 0, plainIds(16))),
		faultOf("the node 16, beside another one in KLabel", cell(kNode, 16, 0, plainNum(2)), cell(kLabel, 2, 0, plainIds(4, 16))),
		faultOf("the node -1", cell(kNode, -1, 0, plainNum(1))),
		faultOf("the node 2^32 + 4", cell(kNode, 1<<32+4, 0, plainNum(2))),
		faultOf("the least node", cell(kNode, math.MinInt, 0, plainNum(1))),
		faultOf("the greatest node", cell(kNode, math.MaxInt, 0, plainNum(1))),
		faultOf("a B of 1", cell(kNode, 4, 1, plainNum(2))),
		faultOf("a B of 1, of no node", cell(kNode, 5, 1, plainNum(2)), cell(kLabel, 2, 0, plainIds(4, 5))),
		faultOf("a B of -1", cell(kNode, 4, -1, plainNum(2))),
		faultOf("a B of 1, and none of 0", cell(kNode, 4, 0, ""), cell(kNode, 4, 1, plainNum(2))),
		faultOf("a byte more", cell(kNode, 4, 0, plainNum(2)+"\x00")),
		faultOf("a byte more, and not in KLabel", cell(kNode, 4, 0, plainNum(2)+"\x00"), cell(kLabel, 2, 0, "")),
		faultOf("four bytes more", cell(kNode, 4, 0, plainIds(2, 2))),
		faultOf("a byte less", cell(kNode, 4, 0, plainNum(2)[1:])),
		faultOf("a byte less at the end", cell(kNode, 4, 0, plainNum(2)[:3])),
		faultOf("a byte less, and not in KLabel", cell(kNode, 4, 0, plainNum(2)[1:]), cell(kLabel, 2, 0, "")),
		faultOf("the label 4", cell(kNode, 4, 0, plainNum(4))),
		faultOf("the label 4, in no KLabel", cell(kNode, 4, 0, plainNum(4)), cell(kLabel, 2, 0, "")),
		faultOf("the label 4, in a KLabel", cell(kNode, 4, 0, plainNum(4)), cell(kLabel, 2, 0, ""), cell(kLabel, 4, 0, plainIds(4))),
		faultOf("the label 258", cell(kNode, 4, 0, plainNum(258))),
		faultOf("the last label beyond", cell(kNode, 4, 0, plainNum(-1)), cell(kLabel, 2, 0, "")),
		faultOf("a text that is none", cell(kNode, 4, 0, "x")),
		faultOf("none", cell(kNode, 4, 0, "")),
	})
	wantFaults(t, newWorld(), []fault{
		faultOf("the node 16 alone", cell(kNode, 16, 0, plainNum(0)), cell(kLabel, 0, 0, plainIds(16))),
		faultOf("a node of B 1 alone", cell(kNode, 1, 1, plainNum(0)), cell(kLabel, 0, 0, plainIds(1))),
		faultOf("a node without its KLabel", cell(kNode, 1, 0, plainNum(0))),
	})
}

func TestFaultsOfEdges(t *testing.T) {
	wantFaults(t, example(), []fault{
		faultOf("from a node that there isn't", cell(kOut, 2, 0, plainIds(0)), cell(kIn, 0, 0, plainIds(1, 2))),
		faultOf("to a node that there isn't", cell(kIn, 2, 0, plainIds(0)), cell(kOut, 0, 0, plainIds(1, 2, 15))),
		faultOf("to one that there isn't, without its KIn", cell(kOut, 0, 0, plainIds(1, 2, 15))),
		faultOf("from one that there isn't, without its KOut", cell(kIn, 0, 0, plainIds(1, 2))),
		faultOf("from one that there isn't, without the other's KIn", cell(kOut, 2, 0, plainIds(0))),
		faultOf("to one that there isn't, without the other's KOut", cell(kIn, 2, 0, plainIds(0))),
		faultOf("of one that there isn't to itself", cell(kOut, 2, 0, plainIds(2)), cell(kIn, 2, 0, plainIds(2))),
		faultOf("from the node 16", cell(kOut, 16, 0, plainIds(0)), cell(kIn, 0, 0, plainIds(1, 16))),
		faultOf("to the node 16", cell(kIn, 16, 0, plainIds(0)), cell(kOut, 0, 0, plainIds(1, 15, 16))),
		faultOf("KOut of the node 16", cell(kOut, 16, 0, plainIds(0))),
		faultOf("KIn of the node -1", cell(kIn, -1, 0, plainIds(0))),
		faultOf("KOut with a B of 1", cell(kOut, 0, 1, plainIds(1, 15))),
		faultOf("KIn with a B of 1", cell(kIn, 1, 1, plainIds(0))),
		faultOf("KOut with a B of -1", cell(kOut, 14, -1, plainIds(1))),
		faultOf("KOut with a B of 1 instead", cell(kOut, 0, 1, plainIds(1, 15)), cell(kOut, 0, 0, "")),
		faultOf("KIn with a B of 1 instead", cell(kIn, 1, 1, plainIds(0)), cell(kIn, 1, 0, "")),
		faultOf("KOut with a byte more", cell(kOut, 0, 0, plainIds(1, 15)+"\x00")),
		faultOf("KOut with a byte less", cell(kOut, 0, 0, plainIds(1, 15)[:7])),
		faultOf("KOut without its first byte", cell(kOut, 0, 0, plainIds(1, 15)[1:])),
		faultOf("KIn with a byte more", cell(kIn, 1, 0, plainIds(0)+"\x00")),
		faultOf("KIn with a byte less", cell(kIn, 1, 0, plainIds(0)[:3])),
		faultOf("KOut that falls", cell(kOut, 0, 0, plainIds(15, 1))),
		faultOf("KOut with one twice", cell(kOut, 0, 0, plainIds(1, 15, 15))),
		faultOf("KIn that falls", cell(kIn, 3, 0, plainIds(15, 7, 3, 1))),
		faultOf("KIn with one twice", cell(kIn, 3, 0, plainIds(1, 3, 3, 7, 15))),
		faultOf("KOut that is no row", cell(kOut, 14, 0, "x")),
		faultOf("KIn that is no row", cell(kIn, 14, 0, "text")),
		faultOf("KOut that is no row, of no node", cell(kOut, 2, 0, "x")),
		faultOf("KOut that leads on, and KIn that doesn't", cell(kOut, 0, 0, plainIds(1, 14, 15))),
		faultOf("KIn that leads on, and KOut that doesn't", cell(kIn, 14, 0, plainIds(0))),
		faultOf("KOut without one", cell(kOut, 0, 0, plainIds(1))),
		faultOf("KIn without one", cell(kIn, 3, 0, plainIds(1, 3, 7))),
		faultOf("an empty KOut", cell(kOut, 0, 0, "")),
		faultOf("an empty KIn", cell(kIn, 3, 0, "")),
		faultOf("another one in KOut", cell(kOut, 0, 0, plainIds(3, 15))),
		faultOf("another one in KIn", cell(kIn, 15, 0, plainIds(1))),
		faultOf("the other way round", cell(kOut, 15, 0, plainIds(0, 3)), cell(kOut, 0, 0, plainIds(1))),
		faultOf("to itself in KOut alone", cell(kOut, 14, 0, plainIds(14))),
		faultOf("to itself in KIn alone", cell(kIn, 14, 0, plainIds(14))),
		faultOf("to itself, and no more in KOut", cell(kOut, 3, 0, "")),
		faultOf("to itself, and no more in KIn", cell(kIn, 3, 0, plainIds(1, 7, 15))),
		faultOf("without the node to which one leads", cell(kNode, 15, 0, ""), cell(kLabel, 1, 0, plainIds(1, 3))),
	})
}

func TestFaultsOfProperties(t *testing.T) {
	long := text(strings.Repeat("z", maxText+1))
	none := api.Val{}
	is := func(v api.Val, a, b int) api.Write { return cell(kProp, a, b, plainPut(v)) }
	// 15 has -1, 3 an empty text, 7 a byte 0, and 0 has 256, of the property key 2; 14 has none.
	index := func(l ...graph.Entry) api.Write { return cell(kIndex, 2, 0, plainEntries(l...)) }
	a, b, c, d := entry(number(-1), 15), entry(number(256), 0), entry(text(""), 3), entry(text("\x00"), 7)
	wantFaults(t, example(), []fault{
		faultOf("of a node that there isn't", is(number(9), 2, 2)),
		faultOf("of a node that there isn't, in KIndex", is(number(9), 2, 2), index(a, entry(number(9), 2), b, c, d)),
		faultOf("of the node 16", is(number(9), 16, 2)),
		faultOf("of the node 16, in KIndex", is(number(9), 16, 2), index(a, entry(number(9), 16), b, c, d)),
		faultOf("of the node -1", is(number(9), -1, 2)),
		faultOf("of the node 2^32 + 14", is(number(9), 1<<32+14, 2)),
		faultOf("of the property key 4", is(number(9), 14, 4)),
		faultOf("of the property key 4, in KIndex", is(number(9), 14, 4), cell(kIndex, 4, 0, plainEntries(entry(number(9), 14)))),
		faultOf("of the property key -1", is(number(9), 14, -1)),
		faultOf("of the least property key", is(number(9), 14, math.MinInt)),
		faultOf("of the property key 2^32 + 2", is(number(256), 0, 1<<32+2)),
		faultOf("none", is(none, 14, 2)),
		faultOf("none, in KIndex", is(none, 14, 2), index(entry(none, 14), a, b, c, d)),
		faultOf("none, of a node that had one", is(none, 15, 2), index(b, c, d)),
		faultOf("a long text", is(long, 14, 2)),
		faultOf("a long text, in KIndex", is(long, 14, 2), index(a, b, c, d, entry(long, 14))),
		faultOf("neither false nor true", is(whether(2), 14, 2)),
		faultOf("neither, in KIndex", is(whether(2), 14, 2), index(a, b, c, d, entry(whether(2), 14))),
		faultOf("another type", is(api.Val{T: 4}, 14, 2)),
		faultOf("another type, in KIndex", is(api.Val{T: 4}, 14, 2), index(a, b, c, d, entry(api.Val{T: 4}, 14))),
		faultOf("no value", cell(kProp, 14, 2, "x")),
		faultOf("a byte behind", cell(kProp, 0, 2, plainPut(number(256))+"\x00")),
		faultOf("a byte behind, and not in KIndex", cell(kProp, 0, 2, plainPut(number(256))+"\x00"), index(a, c, d)),
		faultOf("a byte behind a text", cell(kProp, 7, 2, plainPut(text("\x00"))+"\x00")),
		faultOf("a value behind", cell(kProp, 3, 2, plainPut(text(""))+plainPut(text("")))),
		faultOf("a byte less", cell(kProp, 0, 2, plainPut(number(256))[:8])),
		faultOf("a byte less of a text", cell(kProp, 7, 2, plainPut(text("\x00"))[:4])),
		faultOf("another value", is(number(255), 0, 2)),
		faultOf("the same number as a text", is(text("256"), 0, 2)),
		faultOf("no more", cell(kProp, 0, 2, "")),
		faultOf("one more", is(number(9), 14, 2)),
		faultOf("of another node", cell(kProp, 0, 2, ""), is(number(256), 14, 2)),
		faultOf("of another property key", cell(kProp, 15, 2, ""), is(number(-1), 15, 3)),
		faultOf("A and B the other way round", cell(kProp, 0, 2, ""), is(number(256), 2, 0)),
	})
}

func TestFaultsOfLabels(t *testing.T) {
	// 0 and 14 have the label 0; 1, 3 and 15 the label 1; 7 the label 3; none the label 2.
	of := func(label int, nodes ...int) api.Write { return cell(kLabel, label, 0, plainIds(nodes...)) }
	wantFaults(t, example(), []fault{
		faultOf("without its first", of(1, 3, 15)),
		faultOf("without one within", of(1, 1, 15)),
		faultOf("without its last", of(1, 1, 3)),
		faultOf("without any", of(1)),
		faultOf("without any, of a label of one", of(3)),
		faultOf("with one of another label", of(1, 1, 3, 14, 15)),
		faultOf("with one of another label, that isn't there", of(1, 1, 3, 14, 15), of(0, 0)),
		faultOf("with one that there isn't", of(1, 1, 2, 3, 15)),
		faultOf("with the node 16", of(1, 1, 3, 15, 16)),
		faultOf("with another one instead", of(1, 1, 4, 15)),
		faultOf("two the other way round", of(1, 3, 1, 15)),
		faultOf("one twice", of(1, 1, 3, 15, 15)),
		faultOf("a byte more", cell(kLabel, 1, 0, plainIds(1, 3, 15)+"\x00")),
		faultOf("a byte less", cell(kLabel, 1, 0, plainIds(1, 3, 15)[:11])),
		faultOf("no row", cell(kLabel, 1, 0, "x")),
		faultOf("of a label of no node, with one", of(2, 0)),
		faultOf("of a label of no node, with one that there isn't", of(2, 2)),
		faultOf("of a label of no node, with no row", cell(kLabel, 2, 0, "\x00")),
		faultOf("of the label 4, with one", of(4, 0)),
		faultOf("of the label 4, with one that there isn't", of(4, 2)),
		faultOf("of the label -1", of(-1, 0)),
		faultOf("of the label 2^32 + 1", of(1<<32+1, 1, 3, 15)),
		faultOf("a B of 1", cell(kLabel, 1, 1, plainIds(1, 3, 15))),
		faultOf("a B of -1", cell(kLabel, 2, -1, plainIds(0))),
		faultOf("a B of 1 instead", cell(kLabel, 1, 1, plainIds(1, 3, 15)), of(1)),
		faultOf("of two labels the other way round", of(0, 1, 3, 15), of(1, 0, 14)),
		faultOf("of a node whose label is another one", cell(kNode, 7, 0, plainNum(2))),
		faultOf("without a node", cell(kNode, 14, 0, ""), cell(kProp, 14, 1, ""), cell(kIndex, 1, 0, plainEntries(entry(whether(0), 0), entry(whether(0), 1), entry(whether(1), 3)))),
	})
}

func TestFaultsOfIndexes(t *testing.T) {
	of := func(property int, l ...graph.Entry) api.Write {
		return cell(kIndex, property, 0, plainEntries(l...))
	}
	// 0, 1 and 14 have false, and 3 has true, of the property key 1; none has anything of the property key 3.
	a, b, c, d := entry(whether(0), 0), entry(whether(0), 1), entry(whether(0), 14), entry(whether(1), 3)
	wantFaults(t, example(), []fault{
		faultOf("without its first", of(1, b, c, d)),
		faultOf("without one within", of(1, a, c, d)),
		faultOf("without its last", of(1, a, b, c)),
		faultOf("without any", of(1)),
		faultOf("with one that hasn't the property", of(1, a, b, entry(whether(0), 7), c, d)),
		faultOf("with one that there isn't", of(1, a, b, entry(whether(0), 2), c, d)),
		faultOf("with the node 16", of(1, a, b, c, d, entry(whether(1), 16))),
		faultOf("with another value", of(1, a, b, entry(whether(1), 3), entry(whether(1), 14))),
		faultOf("with a value of another type", of(1, entry(number(0), 0), b, c, d)),
		faultOf("with another value besides", of(1, a, b, c, d, entry(whether(1), 14))),
		faultOf("with another node", of(1, a, b, entry(whether(0), 13), d)),
		faultOf("in the order of the nodes", of(1, a, b, d, c)),
		faultOf("two the other way round", of(1, b, a, c, d)),
		faultOf("one twice", of(1, a, b, c, d, d)),
		faultOf("a byte more", cell(kIndex, 1, 0, plainEntries(a, b, c, d)+"\x00")),
		faultOf("a byte less", cell(kIndex, 1, 0, plainEntries(a, b, c, d)[:13*4-1])),
		faultOf("no row", cell(kIndex, 1, 0, "x")),
		faultOf("of a property key of no node, with one", of(3, a)),
		faultOf("of a property key of no node, with one that there isn't", of(3, entry(whether(0), 2))),
		faultOf("of a property key of no node, with no row", cell(kIndex, 3, 0, "\x00")),
		faultOf("of the property key 4, with one", of(4, a)),
		faultOf("of the property key -1", of(-1, a)),
		faultOf("of the property key 2^32 + 1", of(1<<32+1, a, b, c, d)),
		faultOf("a B of 1", cell(kIndex, 1, 1, plainEntries(a, b, c, d))),
		faultOf("a B of -1", cell(kIndex, 3, -1, plainEntries(a))),
		faultOf("a B of 1 instead", cell(kIndex, 1, 1, plainEntries(a, b, c, d)), of(1)),
		faultOf("a row of nodes", cell(kIndex, 1, 0, plainIds(0, 1, 14, 3))),
	})
}

// P14.2: of the property key 0 no two values are alike; of others they may be.
func TestTwoNodesWithOneValue(t *testing.T) {
	for _, v := range values() {
		for property := range properties {
			w := labelled(0, 1, 6, 1, 9, 0, 15, 2)
			w.props = map[[2]int]api.Val{{6, property}: v, {15, property}: v}
			wantMay(t, "one value of two nodes", graph.New(w.cells()), property != 0)
			w.props[[2]int{0, property}] = v
			wantMay(t, "one value of three nodes", graph.New(w.cells()), property != 0)
			delete(w.props, [2]int{6, property})
			delete(w.props, [2]int{15, property})
			wantMay(t, "one value of a node", graph.New(w.cells()), true)
			// One value of two property keys is no two values of one.
			for other := range properties {
				w.props[[2]int{0, other}] = v
			}
			wantMay(t, "one value of all property keys", graph.New(w.cells()), true)
		}
	}
	// Not even beside each other in the index must they stand: an index says that they do, if there are two.
	among := values()
	for i, v := range among {
		for _, u := range among[:i] {
			w := labelled(3, 0, 4, 0, 5, 0)
			w.props = map[[2]int]api.Val{{3, 0}: v, {4, 0}: u}
			wantMay(t, "two values of two nodes", graph.New(w.cells()), true)
			w.props[[2]int{5, 0}] = v
			wantMay(t, "two values of three nodes", graph.New(w.cells()), false)
		}
	}
	wantFaults(t, example(), []fault{
		faultOf("the text of another node", cell(kProp, 1, 0, plainPut(text("ada"))), cell(kIndex, 0, 0, plainEntries(entry(number(5), 15), entry(text("ada"), 0), entry(text("ada"), 1), entry(whether(0), 3), entry(whether(1), 7)))),
		faultOf("the text of another node, which the index has once", cell(kProp, 1, 0, plainPut(text("ada"))), cell(kIndex, 0, 0, plainEntries(entry(number(5), 15), entry(text("ada"), 0), entry(whether(0), 3), entry(whether(1), 7)))),
		faultOf("false of two nodes", cell(kProp, 14, 0, plainPut(whether(0))), cell(kIndex, 0, 0, plainEntries(entry(number(5), 15), entry(text("ada"), 0), entry(text("bob"), 1), entry(whether(0), 3), entry(whether(0), 14), entry(whether(1), 7)))),
	})
}

func TestFaultsOfTheCount(t *testing.T) {
	for what, w := range worlds() {
		l := w.cells()
		others := len(l) - 1
		if others < 0 {
			continue
		}
		var faults []fault
		for _, v := range []string{
			plainNum(others + 1), plainNum(others - 1), plainNum(0), plainNum(others + 256), plainNum(others + 1<<31), plainNum(-others),
			"", "x", plainNum(others)[1:], plainNum(others)[:3], plainNum(others) + "\x00", plainNum(others) + plainNum(others), plainBytes(uint64(others), 8),
		} {
			faults = append(faults, faultOf(what+", KCount", cell(kCount, 0, 0, v)))
		}
		for _, k := range []api.Key{key(kCount, 1, 0), key(kCount, 0, 1), key(kCount, -1, 0), key(kCount, 0, -1), key(kCount, 1, 1), key(kCount, 1<<32, 0), key(kCount, math.MinInt, math.MaxInt)} {
			faults = append(faults,
				faultOf(what+", another KCount", cell(kCount, k.A, k.B, plainNum(others))),
				faultOf(what+", another KCount that is counted", cell(kCount, k.A, k.B, plainNum(others+1)), cell(kCount, 0, 0, plainNum(others+1))),
				faultOf(what+", another KCount instead", cell(kCount, k.A, k.B, plainNum(others)), cell(kCount, 0, 0, "")))
		}
		wantFaults(t, w, faults)
	}
	wantFaults(t, newWorld(), []fault{
		faultOf("alone, of none", cell(kCount, 0, 0, plainNum(0))),
		faultOf("alone, of one", cell(kCount, 0, 0, plainNum(1))),
		faultOf("alone, an A of 1", cell(kCount, 1, 0, plainNum(0))),
		faultOf("two of them, that count each other", cell(kCount, 0, 0, plainNum(1)), cell(kCount, 0, 1, plainNum(1))),
	})
}

// P14.2: there are no other cells.
func TestFaultsOfOtherKinds(t *testing.T) {
	var faults []fault
	for _, kind := range append(ids(9, 10, 127, 257, 258, 260, 1<<32+4, 1<<32+7), numbers...) {
		if kind >= kNode && kind <= kCount {
			continue
		}
		for _, a := range ids(0, 1, 2, -1, math.MaxInt) {
			for _, v := range []string{"x", plainNum(0), plainIds(0), plainPut(number(1))} {
				faults = append(faults, faultOf("another Kind", cell(kind, a, 0, v)), faultOf("another Kind, and another B", cell(kind, a, 3, v)))
			}
		}
	}
	for _, w := range worlds() {
		wantFaults(t, w, faults)
	}
}

// besides are texts that a cell might have instead.
func besides(m table, k api.Key) []string {
	l := []string{"", "x", "\x00", plainNum(0), plainNum(3), plainNum(4), plainIds(0, 15), plainIds(3), plainIds(15, 3), plainPut(text("ada")), plainPut(number(9)), plainPut(whether(0)), plainPut(whether(3)), plainEntries(entry(whether(0), 3))}
	if v := m[k]; v != "" {
		l = append(l, v+"\x00", v[1:], v[:len(v)-1], v+v, v+plainNum(14), v[:len(v)/2])
	}
	return l
}

// besideKeys are keys in a world, and beside it.
func besideKeys() []api.Key {
	var all []api.Key
	for kind := range 9 {
		for _, a := range ids(-1, 0, 1, 2, 3, 4, 14, 15, 16) {
			for b := -1; b < 5; b++ {
				if b == 0 || b == 1 || kind == kProp {
					all = append(all, key(kind, a, b))
				}
			}
		}
	}
	return all
}

// P14.2: each cell with each other text, counted or not.
func TestEveryCellWithAnotherText(t *testing.T) {
	count := key(kCount, 0, 0)
	for what, w := range worlds() {
		m := tableOf(w.cells())
		g := graph.New(w.cells())
		for _, k := range besideKeys() {
			was, wasCount := m[k], m[count]
			for _, v := range besides(m, k) {
				m.put(k, v)
				g.Put(k, v)
				if want := m.fits(); g.May() != want {
					t.Fatalf("%s, with %+v as %q: May() is not %t", what, k, v, want)
				}
				if k == count {
					continue
				}
				m.put(count, m.count())
				g.Put(count, m.count())
				if want := m.fits(); g.May() != want {
					t.Fatalf("%s, with %+v as %q, counted: May() is not %t", what, k, v, want)
				}
				m.put(count, wasCount)
				g.Put(count, wasCount)
			}
			m.put(k, was)
			g.Put(k, was)
		}
		wantSame(t, what, g, m)
		wantMay(t, what, g, true)
	}
}

// P14.2: whatever of a world's cells is there, counted or not.
func TestEveryPartOfAWorld(t *testing.T) {
	w := labelled(1, 2, 4, 2)
	w.edges[[2]int{1, 4}] = true
	w.props = map[[2]int]api.Val{{4, 1}: number(3)}
	l := w.cells()
	fitting := 0
	for part := range 1 << len(l) {
		var some []api.Write
		for i, c := range l {
			if part&(1<<i) != 0 {
				some = append(some, c)
			}
		}
		m := tableOf(some)
		wantMay(t, "a part", graph.New(some), m.fits())
		m.put(key(kCount, 0, 0), m.count())
		wantMay(t, "a part that is counted", graph.New(m.all()), m.fits())
		if m.fits() {
			fitting++
		}
	}
	// Nothing; and the nodes with or without the edge and the property: each with KCount or without it, as it is counted then.
	if fitting != 2*(1+4) {
		t.Errorf("%d parts fit", fitting)
	}
}

// P14.2: each graph of two nodes, with all that few texts in few cells may say.
func TestEverySmallGraph(t *testing.T) {
	one, two := number(1), number(2)
	choices := []struct {
		k api.Key
		l []string
	}{
		{key(kNode, 0, 0), []string{"", plainNum(0), plainNum(1)}},
		{key(kNode, 1, 0), []string{"", plainNum(0)}},
		{key(kOut, 0, 0), []string{"", plainIds(0), plainIds(1), plainIds(0, 1)}},
		{key(kIn, 0, 0), []string{"", plainIds(0), plainIds(1)}},
		{key(kIn, 1, 0), []string{"", plainIds(0)}},
		{key(kProp, 0, 0), []string{"", plainPut(one)}},
		{key(kProp, 1, 0), []string{"", plainPut(one), plainPut(two)}},
		{key(kLabel, 0, 0), []string{"", plainIds(0), plainIds(1), plainIds(0, 1)}},
		{key(kLabel, 1, 0), []string{"", plainIds(0)}},
		{key(kIndex, 0, 0), []string{"", plainEntries(entry(one, 0)), plainEntries(entry(one, 0), entry(two, 1)), plainEntries(entry(two, 1)), plainEntries(entry(one, 0), entry(one, 1))}},
	}
	all := 1
	for _, c := range choices {
		all *= len(c.l)
	}
	fitting := 0
	for n := range all {
		m := table{}
		left := n
		for _, c := range choices {
			m.put(c.k, c.l[left%len(c.l)])
			left /= len(c.l)
		}
		m.put(key(kCount, 0, 0), m.count())
		want := m.fits()
		if want {
			fitting++
		}
		if got := graph.New(m.all()).May(); got != want {
			t.Fatalf("May() = %t, not %t, of %+v", got, want, m.all())
		}
	}
	// Without nodes 1; with the node 0 alone 2 labels, an edge or none, a property or none; with the node 1 alone a property or none;
	// with both 2 labels, 4 rows of edges, and, of the 6 pairs of properties, the 4 that some index has without two alike.
	if want := 1 + 2*2*2 + 2 + 2*4*4; fitting != want {
		t.Errorf("%d fit, not %d", fitting, want)
	}
}

// P14.2: worlds by chance, and what is made of two of them.
func TestRandomWorlds(t *testing.T) {
	random := rand.New(rand.NewSource(1))
	for range 300 {
		w := randomWorld(random)
		l := w.cells()
		g := graph.New(l)
		wantMay(t, "a world", g, true)
		other := randomWorld(random).cells()
		for range random.Intn(4) + 1 {
			if len(other) == 0 || len(l) == 0 {
				break
			}
			c := other[random.Intn(len(other))]
			if random.Intn(3) == 0 {
				c = api.Write{K: l[random.Intn(len(l))].K}
			}
			g.Put(c.K, c.V)
			m := tableOf(g.All())
			wantMay(t, "parts of two worlds", g, m.fits())
			m.put(key(kCount, 0, 0), m.count())
			wantMay(t, "parts of two worlds, counted", graph.New(m.all()), m.fits())
		}
	}
}

// R3: what is handed to New is not kept, nor changed.
func TestNewKeepsItsOwn(t *testing.T) {
	around := []api.Write{cell(kNode, 1, 0, "x"), cell(kNode, 0, 0, "y"), cell(kNode, 1, 0, "z"), cell(kNode, 0, 0, ""), cell(kOut, 0, 0, "behind")}
	was := slices.Clone(around)
	g := graph.New(around[:4])
	g.Put(key(kNode, 1, 0), "w")
	g.Put(key(kOut, 0, 0), "v")
	g.All()
	g.May()
	if !slices.Equal(around, was) {
		t.Errorf("what was handed in is %+v now, and was %+v", around, was)
	}
	for i := range around {
		around[i] = cell(-7, -8, -9, "written to")
	}
	wantSame(t, "written to", g, table{key(kNode, 1, 0): "w", key(kOut, 0, 0): "v"}, key(kNode, 0, 0), key(-7, -8, -9))
}

// R3: what is told is the caller's own: turned up to its capacity it changes nothing.
func TestWhatIsToldIsTheCallersOwn(t *testing.T) {
	for what, w := range worlds() {
		l := w.cells()
		g := graph.New(l)
		c := g.Copy()
		for range 3 {
			for _, x := range []*graph.Graph{g, c} {
				all := x.All()
				for i := range all[:cap(all)] {
					all[:cap(all)][i] = cell(-7, -8, -9, "written to")
				}
			}
			wantSame(t, what, g, tableOf(l), key(-7, -8, -9))
			wantSame(t, what+", copied", c, tableOf(l), key(-7, -8, -9))
			wantMay(t, what, g, true)
		}
	}
}

func TestWhatIsTakenIsTheCallersOwn(t *testing.T) {
	many := ids(0, 1, 2, 3, 4, 5, 6, 7, 8, 9, 10, 11, 12, 13, 14, 15)
	for n := range len(many) + 1 {
		l := many[:n]
		var x []graph.Entry
		for _, id := range l {
			x = append(x, entry(text("a"), id))
		}
		s, u := graph.Ids(l), graph.Entries(x)
		for range 3 {
			row, _ := graph.TakeIds(s)
			for i := range row[:cap(row)] {
				row[:cap(row)][i] = -7
			}
			rowOfEntries, _ := graph.TakeEntries(u)
			for i := range rowOfEntries[:cap(rowOfEntries)] {
				rowOfEntries[:cap(rowOfEntries)][i] = entry(number(-7), -7)
			}
			wantIds(t, s, l, true)
			wantEntries(t, u, x, true)
			if graph.Ids(l) != s || graph.Entries(x) != u {
				t.Errorf("Ids(%v) or Entries(%+v) tells another text", l, x)
			}
		}
	}
}

// R4: asked again and again all tell the same.
func TestAgainAndAgain(t *testing.T) {
	l := full().cells()
	g := graph.New(l)
	broken := g.Copy()
	broken.Put(key(kIn, 9, 0), plainIds(1, 2))
	brokenCells := tableOf(l)
	brokenCells.put(key(kIn, 9, 0), plainIds(1, 2))
	all := brokenCells.all()
	for range 60 {
		if !slices.Equal(g.All(), l) || !slices.Equal(g.Copy().All(), l) || !slices.Equal(graph.New(l).All(), l) {
			t.Fatal("All tells another order")
		}
		if !slices.Equal(broken.All(), all) {
			t.Fatal("All tells another order of cells that don't fit")
		}
		if !g.May() || broken.May() {
			t.Fatal("May tells another thing")
		}
	}
}

// P1, P14.1 and P14.2: whatever text is taken.
func FuzzTake(f *testing.F) {
	f.Add(plainIds(2, 5))
	f.Add(plainIds(5, 2) + "\x00")
	f.Add(plainEntries(entry(number(1), 4), entry(text("a\x00b"), 2), entry(whether(1), 15)))
	f.Add(plainEntries(entry(whether(2), 1)))
	f.Add("")
	f.Fuzz(func(t *testing.T, s string) {
		l, ok := plainRow(s)
		wantIds(t, s, l, ok)
		if ok && graph.Ids(l) != s {
			t.Errorf("Ids(%v) is not %q", l, s)
		}
		x, ok := plainRowOfEntries(s)
		wantEntries(t, s, x, ok)
		if ok && graph.Entries(x) != s {
			t.Errorf("Entries(%+v) is not %q", x, s)
		}
	})
}

// P1, P14.1 and P14.2: whatever is put to a world's cells.
func FuzzMay(f *testing.F) {
	f.Add([]byte("\x01\x02\x00\x00"), plainNum(1))
	f.Add([]byte("\x04\x02\x01\x01\x05\x01\x00\x00"), plainPut(number(4)))
	f.Add([]byte{}, "")
	f.Fuzz(func(t *testing.T, b []byte, v string) {
		m := tableOf(example().cells())
		g := graph.New(m.all())
		for i := 0; len(b) >= 4 && i < 20; b, i = b[4:], i+1 {
			k := key(int(int8(b[0])), int(int8(b[1])), int(int8(b[2])))
			u := v
			if b[3]&1 != 0 {
				u = v[:len(v)*int(b[3])/256]
			}
			m.put(k, u)
			if b[3]&2 != 0 {
				m.put(key(kCount, 0, 0), m.count())
			}
			g.Put(k, u)
			g.Put(key(kCount, 0, 0), m[key(kCount, 0, 0)])
			wantMay(t, "put", g, m.fits())
		}
		wantSame(t, "put", g, m)
	})
}

func parsed(t *testing.T) *ast.File {
	t.Helper()
	file, err := parser.ParseFile(token.NewFileSet(), "graph.go", nil, 0)
	if err != nil {
		t.Fatal(err)
	}
	return file
}

// Ways: cells stand in a map whose keys are struct values.
func TestCellsStandInAMapByKeys(t *testing.T) {
	found := false
	ast.Inspect(parsed(t), func(n ast.Node) bool {
		field, ok := n.(*ast.Field)
		if !ok {
			return true
		}
		if m, ok := field.Type.(*ast.MapType); ok {
			s, ok := m.Key.(*ast.SelectorExpr)
			found = found || ok && s.Sel.Name == "Key"
		}
		return true
	})
	if !found {
		t.Error("Graph has no map whose keys are api.Key")
	}
}

// R4 and R6: the package keeps nothing from call to call but in its objects, and calls pack, value and cells alone.
func TestGraphCallsPackValueAndCellsAlone(t *testing.T) {
	file := parsed(t)
	may := []string{"ogive/api", "ogive/pack", "ogive/value", "ogive/cells"}
	for _, i := range file.Imports {
		p := strings.Trim(i.Path.Value, `"`)
		if strings.HasPrefix(p, "ogive/") && !slices.Contains(may, p) {
			t.Errorf("graph imports %s", p)
		}
	}
	for _, d := range file.Decls {
		if g, ok := d.(*ast.GenDecl); ok && g.Tok == token.VAR {
			t.Error("graph has a variable at package level")
		}
	}
}
