package deps_test

import (
	"fmt"
	"go/ast"
	"go/parser"
	"go/token"
	"math"
	"math/rand"
	"slices"
	"strings"
	"testing"

	"ogive/deps"
)

const (
	last     = 1099511627776 // 2^40
	least    = math.MinInt64
	greatest = math.MaxInt64
)

// edges are numbers, rising, beside which bits may be lost, or a number may go round.
var edges = []int64{
	least, least + 1, -1 << 62, -last, math.MinInt32, -256, -2, -1,
	0, 1, 2, 3, 255, 256, math.MaxInt32, 1 << 31, math.MaxUint32, 1 << 32, 1<<32 + 1, last - 1, last, last + 1, last + 2, 1 << 62, greatest - 1, greatest,
}

// notAbove are numbers that nobody may wait for.
var notAbove = []int64{0, -1, -2, -5, -256, math.MinInt32, -last, -1 << 62, least + 1, least}

// scales are five numbers each, rising, that lie beside each other, or are the same but for high bits.
var scales = [][]int64{
	{1, 2, 3, 4, 5},
	{5, 1<<32 + 5, 1<<33 + 5, last + 5, 1<<62 + 5},
	{1, 255, 256, last - 1, last},
	{1, math.MaxInt32, 1 << 31, 1 << 32, greatest},
	{greatest - 4, greatest - 3, greatest - 2, greatest - 1, greatest},
}

// A wait is who waits, and for whom.
type wait struct{ of, on int64 }

// A plain is the chapter in its own words, with no thought of cost: the waits, in the order in which they were added.
type plain struct{ row []wait }

func (p *plain) add(of, on int64) bool {
	if on <= 0 || of <= on {
		return false
	}
	if !slices.Contains(p.row, wait{of, on}) {
		p.row = append(p.row, wait{of, on})
	}
	return true
}

func (p *plain) settle(on int64) {
	p.row = slices.DeleteFunc(p.row, func(w wait) bool { return w.of == on || w.on == on })
}

// drop goes through all waits again and again, till none more goes.
func (p *plain) drop(ts int64) []int64 {
	if ts <= 0 {
		return nil
	}
	gone := []int64{ts}
	for more := true; more; {
		more = false
		for _, w := range p.row {
			if slices.Contains(gone, w.on) && !slices.Contains(gone, w.of) {
				gone = append(gone, w.of)
				more = true
			}
		}
	}
	p.row = slices.DeleteFunc(p.row, func(w wait) bool { return slices.Contains(gone, w.of) || slices.Contains(gone, w.on) })
	slices.Sort(gone)
	return gone
}

func (p *plain) waits(of int64) []int64 {
	var row []int64
	for _, w := range p.row {
		if w.of == of {
			row = append(row, w.on)
		}
	}
	slices.Sort(row)
	return row
}

func (p *plain) all() []int64 {
	var row []int64
	for _, w := range p.row {
		row = append(row, w.of)
	}
	slices.Sort(row)
	return slices.Compact(row)
}

// numbers are all that are named by waits, and those beside them, rising, each once.
func (p *plain) numbers() []int64 {
	row := []int64{0, 1}
	for _, w := range p.row {
		row = append(row, w.of, w.of-1, w.of+1, w.on, w.on-1, w.on+1)
	}
	slices.Sort(row)
	return slices.Compact(row)
}

func made(waits ...wait) *deps.Deps {
	d := deps.New()
	for _, w := range waits {
		d.Add(w.of, w.on)
	}
	return d
}

func wantRow(t *testing.T, what string, got []int64, want ...int64) {
	t.Helper()
	if !slices.Equal(got, want) {
		t.Errorf("%s: %d, not %d", what, got, want)
	}
}

// wantDeps asks twice, since asking changes nothing, of all that waits name and of those beside, and of more.
func wantDeps(t *testing.T, what string, d *deps.Deps, p *plain, more ...int64) {
	t.Helper()
	asked := append(p.numbers(), more...)
	for range 2 {
		wantRow(t, what+": All", d.All(), p.all()...)
		for _, ts := range asked {
			if got, want := d.Waits(ts), p.waits(ts); !slices.Equal(got, want) {
				t.Errorf("%s: Waits(%d) = %d, not %d", what, ts, got, want)
			}
		}
	}
}

// wantWaits is wantDeps of waits that are written out.
func wantWaits(t *testing.T, what string, d *deps.Deps, waits ...wait) {
	t.Helper()
	wantDeps(t, what, d, &plain{row: waits}, edges...)
}

func wantAdd(t *testing.T, d *deps.Deps, of, on int64, want bool) {
	t.Helper()
	if got := d.Add(of, on); got != want {
		t.Errorf("Add(%d, %d) = %t", of, on, got)
	}
}

func wantDrop(t *testing.T, d *deps.Deps, ts int64, want ...int64) {
	t.Helper()
	if got := d.Drop(ts); !slices.Equal(got, want) {
		t.Errorf("Drop(%d) = %d, not %d", ts, got, want)
	}
}

// orders calls f with each order of a row of waits.
func orders(row []wait, f func([]wait)) {
	var put func(int)
	put = func(at int) {
		if at == len(row) {
			f(row)
			return
		}
		for i := at; i < len(row); i++ {
			row[at], row[i] = row[i], row[at]
			put(at + 1)
			row[at], row[i] = row[i], row[at]
		}
	}
	put(0)
}

// P12.1: New.

func TestNewHasNone(t *testing.T) {
	d := deps.New()
	if d == nil {
		t.Fatal("New() = nil")
	}
	for range 2 {
		if l := d.All(); len(l) != 0 {
			t.Errorf("All() = %d", l)
		}
		for _, n := range edges {
			if l := d.Waits(n); len(l) != 0 {
				t.Errorf("Waits(%d) = %d", n, l)
			}
		}
	}
}

// P12.1: Add.

func TestAddAsWrittenOut(t *testing.T) {
	d := deps.New()
	wantAdd(t, d, 7, 3, true)
	wantRow(t, "one", d.All(), 7)
	wantRow(t, "one", d.Waits(7), 3)
	wantRow(t, "who is waited for", d.Waits(3))
	wantAdd(t, d, 3, 7, false)
	wantAdd(t, d, 7, 7, false)
	wantAdd(t, d, 7, 0, false)
	wantAdd(t, d, 7, -3, false)
	wantRow(t, "none more", d.All(), 7)
	wantRow(t, "none more", d.Waits(7), 3)
	wantAdd(t, d, 7, 6, true)
	wantAdd(t, d, 7, 1, true)
	wantAdd(t, d, 3, 1, true)
	wantAdd(t, d, 12, 7, true)
	wantRow(t, "all", d.All(), 3, 7, 12)
	wantRow(t, "three", d.Waits(7), 1, 3, 6)
	wantRow(t, "one", d.Waits(3), 1)
	wantRow(t, "one", d.Waits(12), 7)
	wantRow(t, "who waits for nobody", d.Waits(1))
}

// mayWait is by the numbers' places in edges, so that no number is held against another one.
func mayWait(of, on int) bool { return on > slices.Index(edges, 0) && on < of }

// P12.1: each of two edges, in a new one.
func TestAddOfEveryTwoEdges(t *testing.T) {
	for i, of := range edges {
		for j, on := range edges {
			d := deps.New()
			if !mayWait(i, j) {
				wantAdd(t, d, of, on, false)
				wantWaits(t, fmt.Sprint("not added: ", of, " for ", on), d)
				continue
			}
			wantAdd(t, d, of, on, true)
			wantWaits(t, fmt.Sprint("added: ", of, " for ", on), d, wait{of, on})
		}
	}
}

// P12.1 and R1: what may not be changes nothing where many wait.
func TestAddThatMayNotBeChangesNothing(t *testing.T) {
	waits := []wait{{2, 1}, {3, 1}, {3, 2}, {256, 255}, {1<<32 + 1, 1}, {last, 256}, {greatest, greatest - 1}}
	d := made(waits...)
	for i, of := range edges {
		for j, on := range edges {
			if !mayWait(i, j) {
				wantAdd(t, d, of, on, false)
			}
		}
	}
	wantWaits(t, "not added", d, waits...)
}

// P12.1: at the bounds a number waits for the one just below it, and for none from itself on.
func TestAddBesideTheBounds(t *testing.T) {
	for _, n := range []int64{2, 3, 256, 1 << 31, 1 << 32, last, last + 1, 1 << 62, greatest - 1, greatest} {
		d := deps.New()
		wantAdd(t, d, n, n-1, true)
		wantAdd(t, d, n, n, false)
		wantAdd(t, d, n-1, n, false)
		wantAdd(t, d, n, 1, true)
		for _, on := range notAbove {
			wantAdd(t, d, n, on, false)
			wantAdd(t, d, on, n, false)
			wantAdd(t, d, on, on, false)
		}
		if n == 2 {
			wantWaits(t, "both are one", d, wait{2, 1})
		} else {
			wantWaits(t, "both", d, wait{n, n - 1}, wait{n, 1})
		}
	}
	d := deps.New()
	for _, of := range notAbove {
		for _, on := range notAbove {
			wantAdd(t, d, of, on, false)
		}
	}
	wantWaits(t, "none", d)
}

// P12.1: who waits already is told true again, and it is told once.
func TestAddAgain(t *testing.T) {
	d := deps.New()
	for range 3 {
		wantAdd(t, d, 9, 4, true)
		wantAdd(t, d, 9, 2, true)
		wantWaits(t, "again", d, wait{9, 4}, wait{9, 2})
	}
	wantAdd(t, d, 9, 4, true)
	d.Settle(4)
	wantWaits(t, "settled", d, wait{9, 2})
	wantAdd(t, d, 9, 4, true)
	wantWaits(t, "settled, and added", d, wait{9, 4}, wait{9, 2})
	wantDrop(t, d, 4, 4, 9)
	wantWaits(t, "dropped", d)
	wantAdd(t, d, 9, 4, true)
	wantWaits(t, "dropped, and added", d, wait{9, 4})
}

// P12.1: for whom one waits, and who waits, are told rising, in whatever order they were added.
func TestRowsRiseWhateverTheOrder(t *testing.T) {
	for _, s := range scales {
		for _, waits := range [][]wait{
			{{s[4], s[0]}, {s[4], s[1]}, {s[4], s[2]}, {s[4], s[3]}},
			{{s[1], s[0]}, {s[2], s[0]}, {s[3], s[0]}, {s[4], s[0]}},
			{{s[1], s[0]}, {s[2], s[1]}, {s[3], s[1]}, {s[4], s[2]}, {s[4], s[3]}},
		} {
			orders(waits, func(row []wait) {
				d := deps.New()
				for _, w := range row {
					wantAdd(t, d, w.of, w.on, true)
				}
				wantWaits(t, fmt.Sprint(row), d, row...)
			})
		}
	}
}

func TestMany(t *testing.T) {
	d := deps.New()
	var all, ons []int64
	for of := int64(1000); of > 1; of-- {
		wantAdd(t, d, of, 1, true)
		wantAdd(t, d, 1001, of, true)
	}
	for n := range int64(1000) {
		all, ons = append(all, n+2), append(ons, n+2)
	}
	wantRow(t, "All", d.All(), all...)
	wantRow(t, "Waits(1001)", d.Waits(1001), ons[:999]...)
	for n := int64(2); n <= 1000; n++ {
		wantRow(t, "one", d.Waits(n), 1)
	}
}

// P12.1: Settle.

func TestSettleAsWrittenOut(t *testing.T) {
	waits := []wait{{3, 1}, {3, 2}, {5, 3}, {6, 3}, {6, 4}, {7, 5}, {9, 8}}
	for _, x := range []struct {
		on   int64
		left []wait
	}{
		{1, []wait{{3, 2}, {5, 3}, {6, 3}, {6, 4}, {7, 5}, {9, 8}}},
		{2, []wait{{3, 1}, {5, 3}, {6, 3}, {6, 4}, {7, 5}, {9, 8}}},
		{3, []wait{{6, 4}, {7, 5}, {9, 8}}},
		{4, []wait{{3, 1}, {3, 2}, {5, 3}, {6, 3}, {7, 5}, {9, 8}}},
		{5, []wait{{3, 1}, {3, 2}, {6, 3}, {6, 4}, {9, 8}}},
		{6, []wait{{3, 1}, {3, 2}, {5, 3}, {7, 5}, {9, 8}}},
		{7, []wait{{3, 1}, {3, 2}, {5, 3}, {6, 3}, {6, 4}, {9, 8}}},
		{8, []wait{{3, 1}, {3, 2}, {5, 3}, {6, 3}, {6, 4}, {7, 5}}},
		{9, []wait{{3, 1}, {3, 2}, {5, 3}, {6, 3}, {6, 4}, {7, 5}}},
	} {
		d := made(waits...)
		for range 2 {
			d.Settle(x.on)
			wantWaits(t, fmt.Sprint("settled: ", x.on), d, x.left...)
		}
	}
}

// P12.1: who waited for one alone waits for nobody then, and isn't told any more; who waited for more is.
func TestSettleOfTheOnlyOne(t *testing.T) {
	d := made(wait{4, 1}, wait{5, 1}, wait{5, 2})
	d.Settle(1)
	wantRow(t, "All", d.All(), 5)
	wantRow(t, "Waits(4)", d.Waits(4))
	wantRow(t, "Waits(5)", d.Waits(5), 2)
	d.Settle(2)
	wantRow(t, "All", d.All())
	wantRow(t, "Waits(5)", d.Waits(5))
	wantAdd(t, d, 4, 3, true)
	wantWaits(t, "added again", d, wait{4, 3})
}

// P12.1: of a number that nobody waits for and that waits for none nothing is changed.
func TestSettleOfWhatIsNotThere(t *testing.T) {
	for _, s := range scales {
		waits := []wait{{s[1], s[0]}, {s[3], s[1]}, {s[4], s[1]}, {s[4], s[3]}}
		d := made(waits...)
		not := append(slices.Clone(notAbove), s[2])
		for _, n := range []int64{s[0], s[1], s[3], s[4]} {
			for _, off := range []int64{n + 1, n - 1, n + 1<<32, n - 1<<32, n + 1<<40, n - 1<<40, n ^ 1<<62, n | least, -n, ^n} {
				if !slices.Contains(s, off) {
					not = append(not, off)
				}
			}
		}
		for _, n := range not {
			d.Settle(n)
			wantWaits(t, fmt.Sprint("settled: ", n), d, waits...)
		}
		fresh := deps.New()
		for _, n := range append(not, s...) {
			fresh.Settle(n)
		}
		wantWaits(t, "new", fresh)
	}
}

// P12.2: Drop.

func TestDropAsWrittenOut(t *testing.T) {
	waits := []wait{{3, 1}, {3, 2}, {5, 3}, {6, 3}, {6, 4}, {7, 5}, {9, 8}}
	for _, x := range []struct {
		ts   int64
		gone []int64
		left []wait
	}{
		{1, []int64{1, 3, 5, 6, 7}, []wait{{9, 8}}},
		{2, []int64{2, 3, 5, 6, 7}, []wait{{9, 8}}},
		{3, []int64{3, 5, 6, 7}, []wait{{9, 8}}},
		{4, []int64{4, 6}, []wait{{3, 1}, {3, 2}, {5, 3}, {7, 5}, {9, 8}}},
		{5, []int64{5, 7}, []wait{{3, 1}, {3, 2}, {6, 3}, {6, 4}, {9, 8}}},
		{6, []int64{6}, []wait{{3, 1}, {3, 2}, {5, 3}, {7, 5}, {9, 8}}},
		{7, []int64{7}, []wait{{3, 1}, {3, 2}, {5, 3}, {6, 3}, {6, 4}, {9, 8}}},
		{8, []int64{8, 9}, []wait{{3, 1}, {3, 2}, {5, 3}, {6, 3}, {6, 4}, {7, 5}}},
		{9, []int64{9}, []wait{{3, 1}, {3, 2}, {5, 3}, {6, 3}, {6, 4}, {7, 5}}},
		{10, []int64{10}, waits},
	} {
		d := made(waits...)
		wantDrop(t, d, x.ts, x.gone...)
		wantWaits(t, fmt.Sprint("dropped: ", x.ts), d, x.left...)
		wantDrop(t, d, x.ts, x.ts)
		wantWaits(t, fmt.Sprint("dropped again: ", x.ts), d, x.left...)
	}
}

// The chapter's example: 3 waits for 2, that for 1: 1 dropped: 1, 2, 3.
func TestDropOfTheExample(t *testing.T) {
	orders([]wait{{3, 2}, {2, 1}}, func(row []wait) {
		d := made(row...)
		wantDrop(t, d, 1, 1, 2, 3)
		wantWaits(t, "dropped", d)
	})
}

// P12.2: one that nobody waits for is told all the same, and nothing is changed by it where it waits for none.
func TestDropOfWhatIsNotThere(t *testing.T) {
	for _, s := range scales {
		waits := []wait{{s[1], s[0]}, {s[3], s[1]}, {s[4], s[1]}}
		d, fresh := made(waits...), deps.New()
		for _, n := range append([]int64{s[2], 7, 77, 1<<32 + 7, last + 7}, edges...) {
			if n <= 0 {
				continue
			}
			wantDrop(t, fresh, n, n)
			if !slices.Contains(s, n) || n == s[2] {
				wantDrop(t, d, n, n)
			}
		}
		wantWaits(t, "dropped", d, waits...)
		wantWaits(t, "new", fresh)
	}
}

// P12.2: of a number that is 0 or below nothing is told, and nothing is changed.
func TestDropOfNumbersNotAbove(t *testing.T) {
	for _, s := range scales {
		waits := []wait{{s[1], s[0]}, {s[3], s[1]}, {s[4], s[1]}, {s[4], s[3]}}
		d, fresh := made(waits...), deps.New()
		for _, n := range append([]int64{-s[0], -s[1], -s[4], s[0] | least, s[1] | least, s[4] | least}, notAbove...) {
			wantDrop(t, d, n)
			wantDrop(t, fresh, n)
			wantWaits(t, fmt.Sprint("dropped: ", n), d, waits...)
		}
		wantWaits(t, "new", fresh)
	}
}

// P12.2: rows of several, from whichever place, in whatever order they were added.
func TestDropOfARow(t *testing.T) {
	for _, s := range scales {
		orders([]wait{{s[1], s[0]}, {s[2], s[1]}, {s[3], s[2]}, {s[4], s[3]}}, func(row []wait) {
			for at := range s {
				d := made(row...)
				wantDrop(t, d, s[at], s[at:]...)
				var left []wait
				for i := 1; i < at; i++ {
					left = append(left, wait{s[i], s[i-1]})
				}
				wantWaits(t, fmt.Sprint("dropped: ", s[at]), d, left...)
			}
		})
	}
}

// P12.2: who waits for two of which one alone goes is gone; whom it waited for besides stays, and keeps for whom it waits.
func TestDropWhereOneOfTwoGoes(t *testing.T) {
	for _, s := range scales {
		a, b, c, e, f := s[0], s[1], s[2], s[3], s[4]
		orders([]wait{{f, b}, {f, e}, {e, c}, {b, a}}, func(row []wait) {
			d := made(row...)
			wantDrop(t, d, b, b, f)
			wantWaits(t, "the lower one", d, wait{e, c})
			d = made(row...)
			wantDrop(t, d, c, c, e, f)
			wantWaits(t, "the higher one's", d, wait{b, a})
			d = made(row...)
			wantDrop(t, d, f, f)
			wantWaits(t, "itself", d, wait{e, c}, wait{b, a})
		})
	}
}

// P12.2: whom the dropped one waits for stays, and all that wait for these do.
func TestDropLeavesWhomItWaitsFor(t *testing.T) {
	d := made(wait{5, 1}, wait{5, 2}, wait{5, 4}, wait{4, 2}, wait{4, 3}, wait{6, 4}, wait{7, 5})
	wantDrop(t, d, 5, 5, 7)
	wantWaits(t, "dropped", d, wait{4, 2}, wait{4, 3}, wait{6, 4})
}

// P12.2: two ways lead to one, and it is told once.
func TestDropTellsEachOnce(t *testing.T) {
	d := deps.New()
	for of := int64(2); of <= 60; of++ {
		for on := int64(1); on < of; on++ {
			wantAdd(t, d, of, on, true)
		}
	}
	var want []int64
	for n := int64(20); n <= 60; n++ {
		want = append(want, n)
	}
	wantDrop(t, d, 20, want...)
	for n := int64(2); n < 20; n++ {
		if l := d.Waits(n); len(l) != int(n-1) {
			t.Errorf("Waits(%d) = %d", n, l)
		}
	}
	wantRow(t, "All", d.All(), 2, 3, 4, 5, 6, 7, 8, 9, 10, 11, 12, 13, 14, 15, 16, 17, 18, 19)
}

// P1: a row as deep as nesting goes.
func TestDropOfADeepRow(t *testing.T) {
	const deep = 1 << 16
	d := deps.New()
	want := []int64{1}
	for n := int64(2); n <= deep; n++ {
		d.Add(n, n-1)
		want = append(want, n)
	}
	wantDrop(t, d, 1, want...)
	wantRow(t, "All", d.All())
}

// P12.2: a Deps that is nil.
func TestNilDeps(t *testing.T) {
	var d *deps.Deps
	for range 2 {
		for _, n := range edges {
			for _, on := range edges {
				wantAdd(t, d, n, on, false)
			}
			d.Settle(n)
			wantDrop(t, d, n)
			wantRow(t, "Waits", d.Waits(n))
			wantRow(t, "All", d.All())
		}
	}
}

// step does one call to both, and holds what is told against each other.
func step(t *testing.T, d *deps.Deps, p *plain, kind int, a, b int64) {
	t.Helper()
	switch kind {
	case 0:
		wantAdd(t, d, a, b, p.add(a, b))
	case 1:
		d.Settle(a)
		p.settle(a)
	default:
		wantDrop(t, d, a, p.drop(a)...)
	}
	wantDeps(t, "stepped", d, p, a, b)
}

// P12.1 to P12.3: all of the 1024 ways in which five may wait for each other, and each call behind them.
func TestEveryWayInWhichFiveWait(t *testing.T) {
	for _, s := range scales {
		var waits []wait
		for i, of := range s {
			for _, on := range s[:i] {
				waits = append(waits, wait{of, on})
			}
		}
		for mask := range 1 << len(waits) {
			for call := range 10 {
				d, p := deps.New(), &plain{}
				for i, w := range waits {
					if mask>>i&1 == 1 {
						wantAdd(t, d, w.of, w.on, p.add(w.of, w.on))
					}
				}
				step(t, d, p, 1+call/5, s[call%5], s[0])
			}
			if t.Failed() {
				t.Fatalf("at %b of %d", mask, s)
			}
		}
	}
}

// P12.1 to P12.3: every row of four calls of four numbers.
func TestEveryRowOfCalls(t *testing.T) {
	type call struct {
		kind int
		a, b int64
	}
	var calls []call
	for a := int64(1); a <= 4; a++ {
		calls = append(calls, call{1, a, a}, call{2, a, a})
		for b := int64(1); b < a; b++ {
			calls = append(calls, call{0, a, b})
		}
	}
	rows := len(calls) * len(calls) * len(calls) * len(calls)
	for row := range rows {
		d, p := deps.New(), &plain{}
		for left, i := row, 0; i < 4; left, i = left/len(calls), i+1 {
			c := calls[left%len(calls)]
			step(t, d, p, c.kind, c.a, c.b)
		}
		if t.Failed() {
			t.Fatalf("at the row %d", row)
		}
	}
}

// P12.1 to P12.3: long rows of calls of all edges, and of few numbers.
func TestWhateverIsDone(t *testing.T) {
	random := rand.New(rand.NewSource(1))
	small := []int64{-1, 0, 1, 2, 3, 4, 5, 6, 7, 8, 9, 10}
	for round := range 400 {
		numbers := small
		if round%3 == 0 {
			numbers = edges
		}
		d, p := deps.New(), &plain{}
		for range 60 {
			kind := max(0, random.Intn(12)-9)
			step(t, d, p, kind, numbers[random.Intn(len(numbers))], numbers[random.Intn(len(numbers))])
		}
	}
}

// chance is one in which many wait, whomever chance says.
func chance(random *rand.Rand, numbers int64, many int) *deps.Deps {
	d := deps.New()
	for range many {
		d.Add(random.Int63n(numbers)+1, random.Int63n(numbers)+1)
	}
	return d
}

// asked is for whom each waits, as All and Waits tell it.
func asked(d *deps.Deps) map[int64][]int64 {
	waits := map[int64][]int64{}
	for _, of := range d.All() {
		waits[of] = d.Waits(of)
	}
	return waits
}

// leads is whether it leads from one to another one, however far it is followed.
func leads(waits map[int64][]int64, from, to int64) bool {
	return slices.ContainsFunc(waits[from], func(on int64) bool { return on == to || leads(waits, on, to) })
}

// P12.3: each waits for lower ones alone, so none waits for itself, however far it is followed, and the least one that waits waits for none that does.
func TestNoneWaitsForItself(t *testing.T) {
	random := rand.New(rand.NewSource(2))
	for range 200 {
		d := chance(random, 12, 20)
		for range 30 {
			switch n := random.Int63n(12) + 1; random.Intn(5) {
			case 0:
				d.Settle(n)
			case 1:
				d.Drop(n)
			default:
				d.Add(n, random.Int63n(12)+1)
			}
			waits := asked(d)
			for of, ons := range waits {
				if len(ons) == 0 || ons[0] < 1 || ons[len(ons)-1] >= of || leads(waits, of, of) {
					t.Fatalf("%d waits for %d", of, ons)
				}
			}
			if all := d.All(); len(all) > 0 && slices.ContainsFunc(d.Waits(all[0]), func(on int64) bool { return len(d.Waits(on)) > 0 }) {
				t.Fatalf("%d is the least one that waits, and waits for %d", all[0], d.Waits(all[0]))
			}
		}
	}
}

// P12.3, told by All and Waits ahead of it, with no model beside: who is dropped takes with it just those that lead to it, and all others keep for whom they wait.
func TestDropTakesJustThoseThatWait(t *testing.T) {
	random := rand.New(rand.NewSource(3))
	for range 300 {
		d := chance(random, 14, 24)
		for range 4 {
			before, ts := asked(d), random.Int63n(14)+1
			gone := d.Drop(ts)
			after := asked(d)
			for n := int64(1); n <= 14; n++ {
				goes := n == ts || leads(before, n, ts)
				if slices.Contains(gone, n) != goes {
					t.Fatalf("%d dropped of %v told %d", ts, before, gone)
				}
				if !goes && !slices.Equal(after[n], before[n]) || goes && len(after[n]) > 0 {
					t.Fatalf("%d dropped of %v: then %d waits for %d", ts, before, n, after[n])
				}
			}
		}
	}
}

// P12.3: settled one by one, in whatever order, none waits at last; and so it is if the least ones are, till none is left.
func TestSettledOneByOne(t *testing.T) {
	random := rand.New(rand.NewSource(4))
	for range 200 {
		d := chance(random, 20, 60)
		for _, n := range random.Perm(20) {
			d.Settle(int64(n + 1))
		}
		wantWaits(t, "settled", d)
		d = chance(random, 20, 60)
		for steps := 0; len(d.All()) > 0; steps++ {
			if steps > 20 {
				t.Fatalf("%d wait still", d.All())
			}
			d.Settle(d.Waits(d.All()[0])[0])
		}
		wantWaits(t, "settled", d)
	}
}

// spoil writes to a row up to its capacity.
func spoil(row []int64) {
	row = row[:cap(row)]
	for i := range row {
		row[i] = 99
	}
}

// R3: what is told is the caller's own: written to up to its capacity it changes nothing there, nor another call's row.
func TestRowsAreTheCallersOwn(t *testing.T) {
	waits := []wait{{3, 1}, {3, 2}, {5, 3}, {6, 4}, {8, 7}, {9, 7}, {9, 8}}
	d := made(waits...)
	for _, ask := range []func() []int64{
		d.All,
		func() []int64 { return d.Waits(3) },
		func() []int64 { return d.Waits(9) },
		func() []int64 { return d.Waits(1) },
	} {
		one, two := ask(), ask()
		was := slices.Clone(two)
		spoil(one)
		wantRow(t, "another call's", two, was...)
		wantWaits(t, "written to", d, waits...)
		spoil(two)
		wantWaits(t, "written to", d, waits...)
	}
	spoil(d.Drop(7))
	wantWaits(t, "dropped", d, waits[:4]...)
	spoil(d.Drop(3))
	wantWaits(t, "dropped", d, wait{6, 4})
	spoil(d.Drop(50))
	wantWaits(t, "dropped", d, wait{6, 4})
}

// R3: what was told stays as it was, whatever is done then.
func TestWhatWasToldStays(t *testing.T) {
	d := made(wait{3, 1}, wait{3, 2}, wait{5, 3}, wait{9, 7}, wait{9, 8})
	none, all, ons, gone := d.Waits(4), d.All(), d.Waits(9), d.Drop(1)
	for n := int64(2); n < 30; n++ {
		d.Add(n, n-1)
		d.Add(9, n)
	}
	d.Drop(9)
	d.Settle(4)
	d.Add(6, 1)
	spoil(d.All())
	spoil(d.Waits(6))
	spoil(d.Drop(1))
	wantRow(t, "told of 4", none)
	wantRow(t, "told of all", all, 3, 5, 9)
	wantRow(t, "told of 9", ons, 7, 8)
	wantRow(t, "told of 1 dropped", gone, 1, 3, 5)
}

// R4: with many that wait the same is told, again and again.
func TestTheSameAgainAndAgain(t *testing.T) {
	var waits []wait
	for of := int64(2); of <= 60; of++ {
		waits = append(waits, wait{of * of, of}, wait{of * of, of*of - 1}, wait{of*of + 1, of * of}, wait{of*of + 1, 1})
	}
	d := made(waits...)
	p := &plain{row: waits}
	all := p.all()
	for range 100 {
		wantRow(t, "All", d.All(), all...)
		for _, of := range []int64{2, 4, 5, 49, 900, 901, 3600, 3601} {
			wantRow(t, "Waits", d.Waits(of), p.waits(of)...)
		}
		gone := (&plain{row: slices.Clone(waits)}).drop(2)
		wantRow(t, "Drop", made(waits...).Drop(2), gone...)
	}
}

// R4: what isn't the same one shares nothing.
func TestDepsShareNothing(t *testing.T) {
	a, b := deps.New(), deps.New()
	wantAdd(t, a, 5, 4, true)
	wantWaits(t, "the other one", b)
	wantAdd(t, b, 6, 5, true)
	wantAdd(t, b, 5, 3, true)
	wantDrop(t, a, 4, 4, 5)
	wantWaits(t, "the one", a)
	wantWaits(t, "the other one", b, wait{6, 5}, wait{5, 3})
	b.Settle(5)
	wantAdd(t, a, 6, 5, true)
	wantWaits(t, "the one", a, wait{6, 5})
	wantWaits(t, "the other one", b)
	wantWaits(t, "a third one", deps.New())
}

// P1: whatever is asked.
func FuzzDeps(f *testing.F) {
	f.Add(int64(1), []byte("\x00\x03\x02\x00\x02\x01\x02\x01\x00"))
	f.Add(int64(greatest), []byte("\x00\x00\xff\x00\x01\x00\x01\x00\x00"))
	f.Add(int64(least), []byte("\x00\x00\x01\x02\x00\x00\x01\xff\x00"))
	f.Add(int64(last), []byte("\x00\x05\x04\x00\x06\x05\x00\x07\x04\x02\x04\x00"))
	f.Fuzz(func(t *testing.T, from int64, b []byte) {
		d, p := deps.New(), &plain{}
		for i := 0; i+2 < len(b) && i < 300; i += 3 {
			step(t, d, p, int(b[i]%3), from+int64(int8(b[i+1])), from+int64(int8(b[i+2])))
		}
	})
}

func parsed(t *testing.T) *ast.File {
	t.Helper()
	file, err := parser.ParseFile(token.NewFileSet(), "deps.go", nil, 0)
	if err != nil {
		t.Fatal(err)
	}
	return file
}

// Ways: who waits stands in a map of a Deps' own, from which it is deleted.
func TestWhoWaitsStandsInAMap(t *testing.T) {
	var maps []string
	deleted := false
	ast.Inspect(parsed(t), func(n ast.Node) bool {
		switch n := n.(type) {
		case *ast.TypeSpec:
			if s, ok := n.Type.(*ast.StructType); ok && n.Name.Name == "Deps" {
				for _, f := range s.Fields.List {
					if _, ok := f.Type.(*ast.MapType); ok {
						maps = append(maps, f.Names[0].Name)
					}
				}
			}
		case *ast.CallExpr:
			if f, ok := n.Fun.(*ast.Ident); ok && f.Name == "delete" {
				from, ok := n.Args[0].(*ast.SelectorExpr)
				deleted = deleted || ok && slices.Contains(maps, from.Sel.Name)
			}
		}
		return true
	})
	if len(maps) != 1 || !deleted {
		t.Errorf("a Deps' maps are %v, and that one is deleted from them is %t", maps, deleted)
	}
}

// R4 and R6: the package keeps nothing from call to call but in its objects, and calls no layer.
func TestDepsCallsNoLayer(t *testing.T) {
	file := parsed(t)
	for _, i := range file.Imports {
		if p := strings.Trim(i.Path.Value, `"`); strings.HasPrefix(p, "ogive/") && p != "ogive/api" {
			t.Errorf("deps imports %s", p)
		}
	}
	for _, d := range file.Decls {
		if g, ok := d.(*ast.GenDecl); ok && g.Tok == token.VAR {
			t.Error("deps has a variable at package level")
		}
	}
}
