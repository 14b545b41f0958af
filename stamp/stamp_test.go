package stamp_test

import (
	"go/ast"
	"go/parser"
	"go/token"
	"math"
	"math/rand"
	"slices"
	"strings"
	"testing"

	"ogive/api"
	"ogive/stamp"
)

// The edges are written out, as no test should hang on the package's own number.
const (
	last     = 1099511627776 // 2^40
	usedUp   = 1099511627777
	least    = math.MinInt64
	greatest = math.MaxInt64
)

// starts are what a clock may begin at.
var starts = []int64{1, 2, 3, 5, 255, 256, math.MaxInt32, 1 << 31, math.MaxUint32, 1 << 32, 1<<39 + 1, last - 3, last - 2, last - 1, last, usedUp}

// outside are what no clock may begin at.
var outside = []int64{0, -1, -2, -5, -last, -usedUp, -math.MaxInt32, math.MinInt32, least, least + 1, usedUp + 1, usedUp + 2, last + last, 1 << 41, 1<<41 + 1, 1 << 62, greatest - 1, greatest}

// aliases are what a number becomes if bits above 32 or above 40 are lost, the other way round.
func aliases(n int64) []int64 {
	return []int64{n + 1<<32, n - 1<<32, n + 1<<40, n + 1<<41, n + 1<<62, n | least, -n, ^n}
}

func newClock(t *testing.T, next int64) *stamp.Clock {
	t.Helper()
	c := stamp.New(next)
	if c == nil {
		t.Fatalf("New(%d) = nil", next)
	}
	return c
}

// wantClock asks twice, since asking changes nothing.
func wantClock(t *testing.T, what string, c *stamp.Clock, next int64, active ...int64) {
	t.Helper()
	low := next
	if len(active) > 0 {
		low = active[0]
	}
	for range 2 {
		if got := c.Next(); got != next {
			t.Errorf("%s: Next() = %d, not %d", what, got, next)
		}
		if got := c.Active(); !slices.Equal(got, active) {
			t.Errorf("%s: Active() = %d, not %d", what, got, active)
		}
		if got := c.Min(); got != low {
			t.Errorf("%s: Min() = %d, not %d", what, got, low)
		}
	}
}

func wantIssue(t *testing.T, c *stamp.Clock, want int64) {
	t.Helper()
	if ts, e := c.Issue(); ts != want || e != api.OK {
		t.Errorf("Issue() = %d, %d, not %d", ts, e, want)
	}
}

func wantOver(t *testing.T, c *stamp.Clock) {
	t.Helper()
	if ts, e := c.Issue(); ts != 0 || e != api.ErrOver {
		t.Errorf("Issue() = %d, %d, not ErrOver", ts, e)
	}
}

func wantDone(t *testing.T, c *stamp.Clock, ts int64, want bool) {
	t.Helper()
	if got := c.Done(ts); got != want {
		t.Errorf("Done(%d) = %t", ts, got)
	}
}

// P9.1: New.

func TestNewOfNumbersThatMayNotBe(t *testing.T) {
	for _, n := range outside {
		if c := stamp.New(n); c != nil {
			t.Errorf("New(%d) is a clock, whose next is %d", n, c.Next())
		}
	}
}

func TestNewOfNumbersThatMayBe(t *testing.T) {
	for _, n := range starts {
		wantClock(t, "new", newClock(t, n), n)
	}
}

// P9.1: Issue.

func TestIssueAsWrittenOut(t *testing.T) {
	c := newClock(t, 5)
	wantIssue(t, c, 5)
	wantClock(t, "one issued", c, 6, 5)
	wantIssue(t, c, 6)
	wantClock(t, "two issued", c, 7, 5, 6)
	wantDone(t, c, 5, true)
	wantClock(t, "5 done", c, 7, 6)
	wantIssue(t, c, 7)
	wantClock(t, "three issued", c, 8, 6, 7)
}

func TestIssueOfEveryStart(t *testing.T) {
	for _, n := range starts {
		c := newClock(t, n)
		var active []int64
		for ts := n; ts < n+6; ts++ {
			if ts > last {
				wantOver(t, c)
				wantClock(t, "over", c, usedUp, active...)
				continue
			}
			wantIssue(t, c, ts)
			active = append(active, ts)
			wantClock(t, "issued", c, ts+1, active...)
		}
	}
}

// P9.1: many are active at once, more than there are sessions.
func TestIssueOfMany(t *testing.T) {
	c := newClock(t, 1)
	var active []int64
	for ts := int64(1); ts <= 3000; ts++ {
		wantIssue(t, c, ts)
		active = append(active, ts)
	}
	wantClock(t, "all", c, 3001, active...)
	for ts := int64(1); ts <= 3000; ts += 2 {
		wantDone(t, c, ts, true)
	}
	wantClock(t, "the even ones", c, 3001, slices.DeleteFunc(active, func(ts int64) bool { return ts%2 == 1 })...)
}

// P9.1 and R1: where timestamps are used up nothing is changed, however often one is asked for, and those that are active stay so till they are done.
func TestIssueWhereUsedUp(t *testing.T) {
	c := newClock(t, last-1)
	wantIssue(t, c, last-1)
	wantIssue(t, c, last)
	for range 5 {
		wantOver(t, c)
		wantClock(t, "over", c, usedUp, last-1, last)
	}
	wantDone(t, c, last-1, true)
	wantOver(t, c)
	wantClock(t, "one done", c, usedUp, last)
	wantDone(t, c, last, true)
	wantOver(t, c)
	wantClock(t, "both done", c, usedUp)
	for _, to := range append([]int64{1, last, usedUp}, outside...) {
		c.Raise(to)
		wantOver(t, c)
		wantClock(t, "raised", c, usedUp)
	}
}

// P9.1: a clock that begins where all are used up, and one that is raised to there, issue none.
func TestIssueOfNone(t *testing.T) {
	raised := newClock(t, 3)
	wantIssue(t, raised, 3)
	raised.Raise(usedUp)
	for range 3 {
		wantOver(t, raised)
		wantClock(t, "raised", raised, usedUp, 3)
	}
	fresh := newClock(t, usedUp)
	for range 3 {
		wantOver(t, fresh)
		wantClock(t, "fresh", fresh, usedUp)
	}
}

// P9.1: Done.

func TestDoneOfWhatIsActive(t *testing.T) {
	for _, n := range []int64{1, 5, 1<<32 - 1, last - 2} {
		for _, order := range [][]int64{{0, 1, 2}, {0, 2, 1}, {1, 0, 2}, {1, 2, 0}, {2, 0, 1}, {2, 1, 0}} {
			c := newClock(t, n)
			var active []int64
			for i := range int64(3) {
				wantIssue(t, c, n+i)
				active = append(active, n+i)
			}
			for _, i := range order {
				wantDone(t, c, n+i, true)
				active = slices.DeleteFunc(active, func(ts int64) bool { return ts == n+i })
				wantClock(t, "done", c, n+3, active...)
				wantDone(t, c, n+i, false)
				wantClock(t, "done again", c, n+3, active...)
			}
		}
	}
}

// P9.1: what isn't active isn't done: ahead of the clock's begin, done already, passed over by Raise, still to be issued, and no timestamp at all.
func TestDoneOfWhatIsNotActive(t *testing.T) {
	c := newClock(t, 5)
	for range 3 {
		c.Issue()
	}
	wantDone(t, c, 6, true)
	c.Raise(20)
	wantIssue(t, c, 20)
	not := []int64{1, 2, 3, 4, 6, 8, 9, 15, 19, 21, 22, 100, last, usedUp}
	not = append(not, outside...)
	for _, ts := range []int64{5, 7, 20} {
		not = append(not, aliases(ts)...)
	}
	for _, ts := range not {
		wantDone(t, c, ts, false)
		wantClock(t, "not done", c, 21, 5, 7, 20)
	}
	wantIssue(t, c, 21)
	wantDone(t, c, 21, true)
}

// P9.1: one that is told not to be active ahead of its issuing is issued, and active, all the same.
func TestDoneAheadOfIssue(t *testing.T) {
	c := newClock(t, 5)
	wantDone(t, c, 5, false)
	wantIssue(t, c, 5)
	wantClock(t, "issued", c, 6, 5)
	wantDone(t, c, 5, true)
	wantDone(t, c, 5, false)
}

func TestDoneOfANewClock(t *testing.T) {
	for _, n := range starts {
		c := newClock(t, n)
		for _, ts := range append([]int64{n - 1, n, n + 1}, outside...) {
			wantDone(t, c, ts, false)
			wantClock(t, "new", c, n)
		}
	}
}

// P9.1: Raise.

func TestRaise(t *testing.T) {
	for _, n := range starts {
		for _, to := range append(starts, n-1, n, n+1) {
			if to > usedUp {
				continue
			}
			c := newClock(t, n)
			c.Raise(to)
			next := max(n, to)
			wantClock(t, "raised", c, next)
			if next == usedUp {
				wantOver(t, c)
				continue
			}
			wantIssue(t, c, next)
			wantClock(t, "raised and issued", c, next+1, next)
		}
	}
}

func TestRaiseBeyondChangesNothing(t *testing.T) {
	for _, n := range starts {
		for _, to := range append(outside, aliases(n+1)...) {
			if to > n && to <= usedUp {
				continue
			}
			c := newClock(t, n)
			c.Raise(to)
			wantClock(t, "raised", c, n)
		}
	}
}

// P9.1: those that are active stay so, whatever the next one is raised to.
func TestRaiseLeavesTheActive(t *testing.T) {
	c := newClock(t, 5)
	for range 3 {
		c.Issue()
	}
	wantDone(t, c, 6, true)
	for _, x := range []struct{ to, next int64 }{
		{5, 8}, {6, 8}, {7, 8}, {8, 8}, {0, 8}, {-9, 8}, {least, 8}, {greatest, 8}, {usedUp + 1, 8},
		{9, 9}, {8, 9}, {20, 20}, {9, 20}, {20, 20}, {last, last}, {20, last}, {usedUp + 1, last}, {usedUp, usedUp}, {last, usedUp}, {greatest, usedUp},
	} {
		c.Raise(x.to)
		wantClock(t, "raised", c, x.next, 5, 7)
	}
	wantDone(t, c, 5, true)
	wantDone(t, c, 7, true)
	wantClock(t, "done", c, usedUp)
}

// P9.2: Active and Min, behind a row of calls.

func TestActiveAsWrittenOut(t *testing.T) {
	c := newClock(t, 2)
	wantIssue(t, c, 2)
	wantIssue(t, c, 3)
	c.Raise(300)
	wantIssue(t, c, 300)
	c.Raise(1 << 33)
	wantIssue(t, c, 1<<33)
	c.Raise(last)
	wantIssue(t, c, last)
	wantClock(t, "all", c, usedUp, 2, 3, 300, 1<<33, last)
	wantDone(t, c, 300, true)
	wantClock(t, "without 300", c, usedUp, 2, 3, 1<<33, last)
	wantDone(t, c, 2, true)
	wantClock(t, "without 2", c, usedUp, 3, 1<<33, last)
	wantDone(t, c, last, true)
	wantClock(t, "without the last one", c, usedUp, 3, 1<<33)
	wantDone(t, c, 3, true)
	wantClock(t, "without 3", c, usedUp, 1<<33)
	wantDone(t, c, 1<<33, true)
	wantClock(t, "none", c, usedUp)
}

// P9.2: without one that is active Min is the next one, also where that was raised.
func TestMinWithoutActive(t *testing.T) {
	c := newClock(t, 5)
	wantClock(t, "new", c, 5)
	c.Raise(9)
	wantClock(t, "raised", c, 9)
	wantIssue(t, c, 9)
	wantClock(t, "issued", c, 10, 9)
	c.Raise(30)
	wantClock(t, "raised again", c, 30, 9)
	wantDone(t, c, 9, true)
	wantClock(t, "done", c, 30)
}

// P9.2 and R4: the row hangs on no order of a map, so it is the same each time.
func TestActiveAgainAndAgain(t *testing.T) {
	c := newClock(t, 1)
	var active []int64
	for i := range int64(60) {
		c.Raise(i*i + 1)
		ts, _ := c.Issue()
		active = append(active, ts)
	}
	for range 200 {
		if got := c.Active(); !slices.Equal(got, active) {
			t.Fatalf("Active() = %d, not %d", got, active)
		}
		if got := c.Min(); got != 1 {
			t.Fatalf("Min() = %d", got)
		}
	}
}

// R3: what is told is the caller's own: no clock is changed by it, up to its capacity, nor the row of another call.
func TestActiveIsTheCallersOwn(t *testing.T) {
	c := newClock(t, 5)
	for range 3 {
		c.Issue()
	}
	one, two := c.Active(), c.Active()
	for i := range one[:cap(one)] {
		one[:cap(one)][i] = 99
	}
	if !slices.Equal(two, []int64{5, 6, 7}) {
		t.Errorf("two rows share: %d", two)
	}
	wantClock(t, "written to", c, 8, 5, 6, 7)
	wantDone(t, c, 99, false)
}

// R3: what is told stays as it was, whatever is done to the clock then.
func TestActiveStays(t *testing.T) {
	c := newClock(t, 5)
	none := c.Active()
	c.Issue()
	c.Issue()
	was := c.Active()
	wantDone(t, c, 5, true)
	c.Raise(70)
	c.Issue()
	c.Issue()
	c.Active()
	wantDone(t, c, 6, true)
	if len(none) != 0 || !slices.Equal(was, []int64{5, 6}) {
		t.Errorf("told were nothing and 5, 6, and are %d and %d now", none, was)
	}
	wantClock(t, "all", c, 72, 70, 71)
}

// P9.2: a Clock that is nil.
func TestNilClock(t *testing.T) {
	var c *stamp.Clock
	for range 2 {
		if ts, e := c.Issue(); ts != 0 || e != api.ErrArg {
			t.Errorf("Issue() = %d, %d", ts, e)
		}
		for _, n := range append(starts, outside...) {
			wantDone(t, c, n, false)
			c.Raise(n)
		}
		wantClock(t, "nil", c, 0)
	}
}

// R4: clocks share nothing.
func TestClocksShareNothing(t *testing.T) {
	a, b := newClock(t, 5), newClock(t, 5)
	wantIssue(t, a, 5)
	a.Raise(9)
	wantIssue(t, a, 9)
	wantClock(t, "the other one", b, 5)
	wantDone(t, b, 5, false)
	wantIssue(t, b, 5)
	wantDone(t, a, 5, true)
	wantClock(t, "the one", a, 10, 9)
	wantClock(t, "the other one", b, 6, 5)
	wantClock(t, "a third one", newClock(t, 5), 5)
}

// A plain is a clock in the chapter's words, and what was issued: a row, rising, of which some were done.
type plain struct {
	next   int64
	issued []int64
	done   []int64
}

func (p *plain) active() []int64 {
	var row []int64
	for _, ts := range p.issued {
		if !slices.Contains(p.done, ts) {
			row = append(row, ts)
		}
	}
	return row
}

// step does one call to a clock, and holds it against the chapter's words and against P9.3.
func step(t *testing.T, c *stamp.Clock, p *plain, kind int, n int64) {
	t.Helper()
	low := c.Min()
	switch kind {
	case 0:
		if p.next > last {
			wantOver(t, c)
			break
		}
		wantIssue(t, c, p.next)
		if i := len(p.issued); i > 0 && p.next <= p.issued[i-1] {
			t.Errorf("%d was issued behind %d", p.next, p.issued[i-1])
		}
		p.issued = append(p.issued, p.next)
		p.next++
	case 1:
		is := slices.Contains(p.active(), n)
		wantDone(t, c, n, is)
		if is {
			p.done = append(p.done, n)
		}
	default:
		c.Raise(n)
		if n > p.next && n <= usedUp {
			p.next = n
		}
	}
	wantClock(t, "stepped", c, p.next, p.active()...)
	if now := c.Min(); now < low {
		t.Errorf("Min fell from %d to %d", low, now)
	}
}

// P9.1 to P9.3: whatever is done, in whatever order, a clock is as the chapter's words say.
func TestWhateverIsDone(t *testing.T) {
	random := rand.New(rand.NewSource(1))
	for _, n := range starts {
		for range 40 {
			c, p := newClock(t, n), &plain{next: n}
			for range 60 {
				at := p.next + int64(random.Intn(12)) - 6
				if len(p.issued) > 0 && random.Intn(2) == 0 {
					at = p.issued[random.Intn(len(p.issued))]
				}
				if random.Intn(20) == 0 {
					at = outside[random.Intn(len(outside))]
				}
				step(t, c, p, random.Intn(3), at)
			}
		}
	}
}

// P9.3, told by what is issued alone, with no model beside it: none twice, each above all ahead of it, and Min never falls.
func TestNoneIsIssuedTwice(t *testing.T) {
	random := rand.New(rand.NewSource(2))
	for round := range 60 {
		from := int64(1)
		if round%2 == 1 {
			from = last - 200
		}
		c := newClock(t, from)
		before, low := int64(0), c.Min()
		for range 300 {
			switch random.Intn(4) {
			case 0, 1:
				ts, e := c.Issue()
				if e == api.OK && (ts <= before || ts < from || ts > last) {
					t.Fatalf("%d was issued behind %d", ts, before)
				}
				if e == api.OK {
					before = ts
				} else if e != api.ErrOver || c.Next() != usedUp {
					t.Fatalf("Issue() = %d, %d, where the next one is %d", ts, e, c.Next())
				}
			case 2:
				if row := c.Active(); len(row) > 0 {
					c.Done(row[random.Intn(len(row))])
				}
				c.Done(before + 1)
			default:
				c.Raise(c.Next() + int64(random.Intn(9)) - 5)
				c.Raise(before)
			}
			if c.Min() < low {
				t.Fatalf("Min fell from %d to %d", low, c.Min())
			}
			low = c.Min()
		}
	}
}

// P9.3: every row of six calls, at a clock's begin and at its end.
func TestEveryRowOfCalls(t *testing.T) {
	const calls, long = 6, 6
	rows := 1
	for range long {
		rows *= calls
	}
	for _, n := range []int64{1, last - 1} {
		for row := range rows {
			c, p := newClock(t, n), &plain{next: n}
			for left, i := row, 0; i < long; left, i = left/calls, i+1 {
				switch call := left % calls; call {
				case 0:
					step(t, c, p, 0, 0)
				case 1, 2, 3:
					step(t, c, p, 1, n+int64(call-1))
				case 4:
					step(t, c, p, 2, n+2)
				default:
					step(t, c, p, 2, p.next+1)
				}
			}
		}
	}
}

// P1: whatever is asked of whatever clock.
func FuzzClock(f *testing.F) {
	f.Add(int64(5), int64(20), []byte("\x00\x00\x01\xfe\x02\x05\x00\x00\x01\xff"))
	f.Add(int64(last), int64(usedUp), []byte("\x00\x00\x00\x00\x02\x80\x00\x00"))
	f.Add(int64(0), int64(least), []byte{})
	f.Add(int64(usedUp), int64(greatest), []byte("\x03\x00\x04\x00\x05\x01"))
	f.Fuzz(func(t *testing.T, next, far int64, b []byte) {
		if next < 1 || next > usedUp {
			if stamp.New(next) != nil {
				t.Errorf("New(%d) is a clock", next)
			}
			return
		}
		c, p := newClock(t, next), &plain{next: next}
		for i := 0; i+1 < len(b) && i < 400; i += 2 {
			n := p.next + int64(int8(b[i+1]))
			if b[i]%6 > 2 {
				n = far
			}
			step(t, c, p, int(b[i]%3), n)
		}
	})
}

func parsed(t *testing.T) *ast.File {
	t.Helper()
	file, err := parser.ParseFile(token.NewFileSet(), "stamp.go", nil, 0)
	if err != nil {
		t.Fatal(err)
	}
	return file
}

// Ways: those that are active stand in a map of a Clock's own, from which they are deleted.
func TestActiveStandInAMap(t *testing.T) {
	var maps []string
	deleted := false
	ast.Inspect(parsed(t), func(n ast.Node) bool {
		switch n := n.(type) {
		case *ast.TypeSpec:
			if s, ok := n.Type.(*ast.StructType); ok && n.Name.Name == "Clock" {
				for _, f := range s.Fields.List {
					if _, ok := f.Type.(*ast.MapType); ok {
						maps = append(maps, f.Names[0].Name)
					}
				}
			}
		case *ast.CallExpr:
			if f, ok := n.Fun.(*ast.Ident); ok && f.Name == "delete" {
				from, ok := n.Args[0].(*ast.SelectorExpr)
				deleted = deleted || ok && slices.Contains(maps, from.Sel.Name)
			}
		}
		return true
	})
	if len(maps) != 1 || !deleted {
		t.Errorf("a Clock's maps are %v, and that one is deleted from them is %t", maps, deleted)
	}
}

// R4 and R6: the package keeps nothing from call to call but in clocks, and calls no layer.
func TestStampCallsNoLayer(t *testing.T) {
	file := parsed(t)
	for _, i := range file.Imports {
		p := strings.Trim(i.Path.Value, `"`)
		if strings.HasPrefix(p, "ogive/") && p != "ogive/api" {
			t.Errorf("stamp imports %s", p)
		}
	}
	for _, d := range file.Decls {
		if g, ok := d.(*ast.GenDecl); ok && g.Tok == token.VAR {
			t.Error("stamp has a variable at package level")
		}
	}
}
