package sieve

import (
	"fmt"
	"math"
	"slices"
	"strconv"
	"strings"
	"sync"
	"testing"

	"distiller/api"
	"distiller/cell"
	"distiller/term"
	"distiller/weigh"
)

const (
	yes     = "b\x01"
	no      = "b\x00"
	nothing = ""
	// most is how often rows may be there together.
	most = 1 << 62
)

// at is a row of these cells, so often.
func at(n int, row ...string) api.Times {
	return api.Times{Row: row, N: n}
}

// col is a column.
func col(c int) api.Term { return api.Term{Op: 'c', Col: c} }

// con is a constant.
func con(c string) api.Term { return api.Term{Op: 'k', Cell: c} }

// of is the op of these parts.
func of(op byte, parts ...api.Term) api.Term { return api.Term{Op: op, Kids: parts} }

// same tells whether two lists have the same rows, as often, as they stand.
func same(a, b []api.Times) bool {
	return slices.EqualFunc(a, b, func(x, y api.Times) bool { return x.N == y.N && slices.Equal(x.Row, y.Row) })
}

// deep is the list in memory of its own.
func deep(l []api.Times) []api.Times {
	out := make([]api.Times, len(l))
	for i, x := range l {
		out[i] = api.Times{Row: slices.Clone(x.Row), N: x.N}
	}
	return out
}

// listsOf are all lists of up to most of these.
func listsOf[T any](these []T, most int) [][]T {
	var l [][]T
	var all func(ahead []T)
	all = func(ahead []T) {
		l = append(l, ahead)
		if len(ahead) == most {
			return
		}
		for _, x := range these {
			all(append(slices.Clip(ahead), x))
		}
	}
	all(nil)
	return l
}

// ordersOf are all orders of these.
func ordersOf(these []api.Times) [][]api.Times {
	if len(these) == 0 {
		return [][]api.Times{nil}
	}
	var l [][]api.Times
	for i, x := range these {
		for _, others := range ordersOf(slices.Concat(these[:i], these[i+1:])) {
			l = append(l, append([]api.Times{x}, others...))
		}
	}
	return l
}

// key is a text by which rows are told apart: each cell behind how long it is.
func key(row []string) string {
	var b strings.Builder
	for _, c := range row {
		b.WriteString(strconv.Itoa(len(c)) + ":" + c)
	}
	return b.String()
}

// ahead tells whether a row stands ahead of another one: by the first cell that is unlike, else the shorter one.
func ahead(a, b []string) bool {
	for i := 0; i < len(a) && i < len(b); i++ {
		if a[i] != b[i] {
			return a[i] < b[i]
		}
	}
	return len(a) < len(b)
}

// together is rows in order by the chapter's words: counted by a map.
func together(l []api.Times) []api.Times {
	many, rows := map[string]int{}, map[string][]string{}
	for _, x := range l {
		many[key(x.Row)] += x.N
		rows[key(x.Row)] = x.Row
	}
	var out []api.Times
	for k, n := range many {
		if n != 0 {
			out = append(out, api.Times{Row: rows[k], N: n})
		}
	}
	slices.SortFunc(out, func(a, b api.Times) int {
		if ahead(a.Row, b.Row) {
			return -1
		}
		return 1
	})
	return out
}

// projected is what Project is to be: cell by cell, and counted by a map.
func projected(l []api.Times, cols []int) []api.Times {
	var out []api.Times
rows:
	for _, x := range l {
		var row []string
		for _, c := range cols {
			if c < 0 || c >= len(x.Row) {
				continue rows
			}
			row = append(row, x.Row[c])
		}
		out = append(out, at(x.N, row...))
	}
	return together(out)
}

// condition is a term, and by the chapter's words, without it, whether it is yes of a row.
type condition struct {
	t      api.Term
	passes func(row []string) bool
}

// cellAt is the row's cell, nothing where it has none.
func cellAt(row []string, c int) string {
	if c < len(row) {
		return row[c]
	}
	return nothing
}

// conditions are of each op, with columns that a row may not have.
func conditions() []condition {
	a := func(row []string) string { return cellAt(row, 0) }
	b := func(row []string) string { return cellAt(row, 1) }
	one := cell.Int(1)
	return []condition{
		{col(0), func(row []string) bool { return a(row) == yes }},
		{col(1), func(row []string) bool { return b(row) == yes }},
		{col(-1), func(row []string) bool { return false }},
		{con(yes), func(row []string) bool { return true }},
		{con(no), func(row []string) bool { return false }},
		{con(nothing), func(row []string) bool { return false }},
		{con(one), func(row []string) bool { return false }},
		{of('=', col(0), col(1)), func(row []string) bool { return a(row) != "" && a(row) == b(row) }},
		{of('=', col(0), con(one)), func(row []string) bool { return a(row) == one }},
		{of('<', col(0), con(one)), func(row []string) bool { return a(row) != "" && a(row) < one }},
		{of('<', con(one), col(0)), func(row []string) bool { return a(row) > one }},
		{of('<', col(0), col(1)), func(row []string) bool { return a(row) != "" && a(row) < b(row) }},
		{of('&', col(0), col(1)), func(row []string) bool { return a(row) == yes && b(row) == yes }},
		{of('|', col(0), col(1)), func(row []string) bool { return a(row) == yes || b(row) == yes }},
		{of('!', col(0)), func(row []string) bool { return a(row) != "" && a(row) != yes }},
		{of('?', col(0)), func(row []string) bool { return a(row) == "" }},
		{of('!', of('?', col(1))), func(row []string) bool { return b(row) != "" }},
		{of('!', of('=', col(0), con(one))), func(row []string) bool { return a(row) != "" && a(row) != one }},
		{of('?', of('<', col(0), col(1))), func(row []string) bool { return a(row) == "" || b(row) == "" }},
		{of('&', of('!', of('?', col(0))), of('?', col(1))), func(row []string) bool { return a(row) != "" && b(row) == "" }},
		{of('x', con(yes), con(yes)), func(row []string) bool { return false }},
		{api.Term{}, func(row []string) bool { return false }},
	}
}

// filtered is what Filter is to be.
func filtered(l []api.Times, c condition) []api.Times {
	var out []api.Times
	for _, x := range l {
		if c.passes(x.Row) {
			out = append(out, x)
		}
	}
	return out
}

// few are rows that come, and go, side by side, such as are there 0 times, and such as haven't as many cells.
func few() []api.Times {
	return []api.Times{at(2, cell.Int(1), "ta"), at(-2, cell.Int(1), "ta"), at(-1, cell.Int(2), "ta"), at(0, cell.Int(0), "ta"), at(1, nothing, "tb"), at(3, yes, yes), at(1, yes), at(5)}
}

// picks are columns in each order, the same more than once, none, and such as some rows, or all of them, haven't.
func picks() [][]int {
	return append(listsOf([]int{0, 1}, 3), []int{2}, []int{0, 2}, []int{2, 0}, []int{-1}, []int{0, -1}, []int{-1, 0}, []int{math.MinInt}, []int{math.MaxInt}, []int{1, math.MaxInt}, []int{math.MinInt, 1})
}

// filtersTo asks Filter.
func filtersTo(t *testing.T, l []api.Times, x api.Term, want ...api.Times) {
	t.Helper()
	if got := Filter(l, x); !same(got, want) {
		t.Errorf("Filter(%.500q, %.300q) = %.500q, not %.500q", fmt.Sprint(l), fmt.Sprint(x), fmt.Sprint(got), fmt.Sprint(want))
	}
}

// projectsTo asks Project.
func projectsTo(t *testing.T, l []api.Times, cols []int, want ...api.Times) {
	t.Helper()
	if got := Project(l, cols); !same(got, want) {
		t.Errorf("Project(%.500q, %v) = %.500q, not %.500q", fmt.Sprint(l), cols, fmt.Sprint(got), fmt.Sprint(want))
	}
}

// P18.1: written out: just those that it is yes of.
func TestFilterWrittenOut(t *testing.T) {
	one, two, three := at(1, cell.Int(1), "ta"), at(2, cell.Int(2), nothing), at(-3, nothing, "tb")
	l := []api.Times{one, two, three}
	first, second := col(0), col(1)
	isTwo := con(cell.Int(2))
	filtersTo(t, l, con(yes), one, two, three)
	filtersTo(t, l, con(no))
	filtersTo(t, l, con(nothing))
	filtersTo(t, l, of('<', first, isTwo), one)
	filtersTo(t, l, of('!', of('<', first, isTwo)), two)
	filtersTo(t, l, of('?', of('<', first, isTwo)), three)
	filtersTo(t, l, of('=', first, isTwo), two)
	filtersTo(t, l, of('=', second, con("tb")), three)
	filtersTo(t, l, of('=', con("tz"), second))
	filtersTo(t, l, of('?', first), three)
	filtersTo(t, l, of('?', second), two)
	filtersTo(t, l, of('|', of('?', first), of('?', second)), two, three)
	filtersTo(t, l, of('&', of('?', first), of('?', second)))
	filtersTo(t, l, of('|', of('=', first, isTwo), of('=', second, con("tb"))), two, three)
	filtersTo(t, l, of('&', of('!', of('?', first)), of('!', of('?', second))), one)
	filtersTo(t, l, of('=', first, first), one, two)
	filtersTo(t, l, of('=', second, second), one, three)
	filtersTo(t, nil, con(yes))
	filtersTo(t, []api.Times{}, con(yes))
	filtersTo(t, l[:0], con(yes))
}

// P18.1: as they stand: in no order, more than once, 0 times, and going; of any number of cells.
func TestFilterAsTheyStand(t *testing.T) {
	l := []api.Times{at(3, yes, "tz"), at(0, yes, "ta"), at(-1, yes), at(3, yes, "tz"), at(-3, yes, "tz"), at(1, yes, "ta", "tb", "tc", "td", "te", "tf"), at(math.MinInt, yes), at(math.MaxInt, yes), at(0, yes)}
	filtersTo(t, l, col(0), l...)
	filtersTo(t, l, con(yes), l...)
	filtersTo(t, l, of('=', col(1), con("tz")), l[0], l[3], l[4])
	filtersTo(t, l, of('?', col(1)), l[2], l[6], l[7], l[8])
	filtersTo(t, l, of('!', of('?', col(6))), l[5])
	slices.Reverse(l)
	filtersTo(t, l, col(0), l...)
	// So do rows of texts that may be no cells.
	wrong := []api.Times{at(1, "x"), at(2, "b", yes), at(1, "\x00"), at(4, "\xff", ""), at(-1, "t"+strings.Repeat("a", api.MaxText+1)), at(1, "i", "b\x02")}
	filtersTo(t, wrong, con(yes), wrong...)
	filtersTo(t, wrong, of('!', of('?', col(0))), wrong...)
	filtersTo(t, wrong, of('=', col(1), con("b\x02")), wrong[5])
	filtersTo(t, wrong, of('<', con("t"), col(0)), wrong[0], wrong[3], wrong[4])
	// Rows without a cell pass, or don't, as others.
	bare := []api.Times{at(1), at(-2, []string{}...), {Row: nil, N: 0}}
	filtersTo(t, bare, con(yes), bare...)
	filtersTo(t, bare, of('?', col(0)), bare...)
	filtersTo(t, bare, col(0))
	filtersTo(t, bare, of('=', col(0), col(0)))
}

// P18.1: yes alone passes, nothing that is near to it, wherever the term has it from.
func TestFilterOfYesAlone(t *testing.T) {
	others := []string{nothing, no, "b", "\x01", "b\x02", "b\x81", "b\x01\x00", "b\x01\x01", "B\x01", "t\x01", "tb\x01", "\x00b\x01", "i\x01", "yes", "1", "true", cell.Int(1), cell.Text("yes")}
	for _, c := range others {
		filtersTo(t, []api.Times{at(1, c), at(2, yes), at(3, c, yes)}, col(0), at(2, yes))
		filtersTo(t, []api.Times{at(1, c), at(2, yes)}, con(c))
		filtersTo(t, []api.Times{at(1, "ta", c), at(1, yes, c), at(1, "ta", yes)}, col(1), at(1, "ta", yes))
	}
	for b := range 256 {
		c := "b" + string([]byte{byte(b)})
		var want []api.Times
		if b == 1 {
			want = []api.Times{at(7, c)}
		}
		filtersTo(t, []api.Times{at(7, c)}, col(0), want...)
		filtersTo(t, []api.Times{at(7, c)}, con(c), want...)
	}
}

// P18.1: whatever Op stands there, of whatever parts, what the term comes to alone counts.
func TestFilterOfEachOp(t *testing.T) {
	l := []api.Times{at(1, yes, no), at(2, no, yes), at(3, nothing, yes), at(4, "ta", "tb"), at(5), at(6, yes, yes)}
	for op := range 256 {
		for _, parts := range [][]api.Term{nil, {col(0)}, {col(0), col(1)}, {col(1), col(0), con(yes)}, {con(yes), con(yes)}, {con(no), col(0)}} {
			for _, c := range []string{yes, no} {
				x := api.Term{Op: byte(op), Col: 1, Cell: c, Kids: parts}
				var want []api.Times
				for _, r := range l {
					if term.Eval(x, r.Row) == yes {
						want = append(want, r)
					}
				}
				filtersTo(t, l, x, want...)
			}
		}
	}
}

// P18.1: all short lists, under each condition.
func TestFilterShortLists(t *testing.T) {
	passed, left := 0, 0
	for _, c := range conditions() {
		for _, l := range listsOf(few(), 3) {
			want := filtered(l, c)
			filtersTo(t, l, c.t, want...)
			passed += len(want)
			left += len(l) - len(want)
		}
	}
	if passed < 1000 || left < 1000 {
		t.Errorf("just %d pass, and %d don't", passed, left)
	}
}

// P18.1: one that passes, or doesn't, is told wherever it stands.
func TestFilterAtEachPlace(t *testing.T) {
	var l []api.Times
	for i := range 40 {
		l = append(l, at(i-20, cell.Int(i), "ta"))
	}
	for i := range l {
		is := of('=', col(0), con(cell.Int(i)))
		filtersTo(t, l, is, l[i])
		filtersTo(t, l, of('!', is), slices.Concat(l[:i], l[i+1:])...)
		filtersTo(t, l, of('<', col(0), con(cell.Int(i))), l[:i]...)
		filtersTo(t, l, of('<', con(cell.Int(i)), col(0)), l[i+1:]...)
	}
}

// P18.1: written out: cells in these columns, as often, in order.
func TestProjectWrittenOut(t *testing.T) {
	l := []api.Times{at(2, "tb", "tx", "t1"), at(3, "ta", "ty", "t2"), at(4, "tb", "ty", "t3"), at(-4, "ta", "tx", "t4")}
	projectsTo(t, l, []int{0}, at(-1, "ta"), at(6, "tb"))
	projectsTo(t, l, []int{1}, at(-2, "tx"), at(7, "ty"))
	projectsTo(t, l, []int{2}, at(2, "t1"), at(3, "t2"), at(4, "t3"), at(-4, "t4"))
	projectsTo(t, l, []int{0, 1}, at(-4, "ta", "tx"), at(3, "ta", "ty"), at(2, "tb", "tx"), at(4, "tb", "ty"))
	projectsTo(t, l, []int{1, 0}, at(-4, "tx", "ta"), at(2, "tx", "tb"), at(3, "ty", "ta"), at(4, "ty", "tb"))
	projectsTo(t, l, []int{0, 0}, at(-1, "ta", "ta"), at(6, "tb", "tb"))
	projectsTo(t, l, []int{0, 1, 0}, at(-4, "ta", "tx", "ta"), at(3, "ta", "ty", "ta"), at(2, "tb", "tx", "tb"), at(4, "tb", "ty", "tb"))
	projectsTo(t, l, []int{2, 1, 0}, at(2, "t1", "tx", "tb"), at(3, "t2", "ty", "ta"), at(4, "t3", "ty", "tb"), at(-4, "t4", "tx", "ta"))
	// Of no columns all rows are the same one.
	projectsTo(t, l, nil, at(5))
	projectsTo(t, l, []int{}, at(5))
	projectsTo(t, l[:1], nil, at(2))
	for _, cols := range [][]int{nil, {}, {0}, {1, 0}, {-1}} {
		projectsTo(t, nil, cols)
		projectsTo(t, []api.Times{}, cols)
		projectsTo(t, l[:0], cols)
	}
}

// P18.1: the example: two rows that have the same cell.
func TestProjectSameCell(t *testing.T) {
	projectsTo(t, []api.Times{at(2, cell.Int(1), "ta"), at(3, cell.Int(2), "ta")}, []int{1}, at(5, "ta"))
}

// P18.1: rows that haven't one of the columns are left out, the others stay.
func TestProjectLeavesOut(t *testing.T) {
	l := []api.Times{at(1), at(2, "tb"), at(3, "tb", "ta"), at(4, "tb", "ta", nothing), at(5, "ta", "tb")}
	projectsTo(t, l, []int{0}, at(5, "ta"), at(9, "tb"))
	projectsTo(t, l, []int{1}, at(7, "ta"), at(5, "tb"))
	projectsTo(t, l, []int{2}, at(4, nothing))
	projectsTo(t, l, []int{0, 2}, at(4, "tb", nothing))
	projectsTo(t, l, []int{2, 0}, at(4, nothing, "tb"))
	projectsTo(t, l, nil, at(15))
	for _, c := range []int{3, 4, 6, 7, 100, 1 << 32, math.MaxInt, -1, -2, -5, math.MinInt, -1 << 32} {
		for _, cols := range [][]int{{c}, {0, c}, {c, 0}, {0, c, 1}, {c, c}} {
			projectsTo(t, l, cols)
		}
	}
	projectsTo(t, l[:1], []int{0})
	projectsTo(t, []api.Times{at(1), at(-2, []string{}...)}, nil, at(-1))
	// A cell that is nothing is there.
	projectsTo(t, []api.Times{at(1, nothing), at(2)}, []int{0}, at(1, nothing))
	projectsTo(t, []api.Times{at(1, nothing), at(2)}, []int{0, 0}, at(1, nothing, nothing))
}

// P18.1: what is 0 times there then isn't there, though its rows come and go; how often is told whole.
func TestProjectCountsTogether(t *testing.T) {
	projectsTo(t, []api.Times{at(2, "ta", "t1"), at(-2, "ta", "t2")}, []int{0})
	projectsTo(t, []api.Times{at(2, "ta", "t1"), at(-2, "ta", "t2")}, []int{1}, at(2, "t1"), at(-2, "t2"))
	projectsTo(t, []api.Times{at(2, "ta", "t1"), at(-2, "ta", "t1")}, []int{1})
	projectsTo(t, []api.Times{at(2, "ta", "t1"), at(-2, "tb", "t2")}, nil)
	projectsTo(t, []api.Times{at(0, "ta")}, []int{0})
	projectsTo(t, []api.Times{at(0, "ta")}, nil)
	projectsTo(t, []api.Times{at(0, "ta", "t1"), at(1, "ta", "t2")}, []int{0}, at(1, "ta"))
	projectsTo(t, []api.Times{at(-5, "ta"), at(2, "ta"), at(2, "ta")}, []int{0}, at(-1, "ta"))
	projectsTo(t, []api.Times{at(1, "ta"), at(-1, "ta"), at(1, "ta")}, []int{0}, at(1, "ta"))
	projectsTo(t, []api.Times{at(most-1, "ta", "t1"), at(1, "ta", "t2")}, []int{0}, at(most, "ta"))
	projectsTo(t, []api.Times{at(most, "ta", "t1"), at(-most, "ta", "t2"), at(-most, "tb", "t2")}, []int{0}, at(-most, "tb"))
	projectsTo(t, []api.Times{at(1<<32, "ta", "t1"), at(1, "ta", "t2")}, []int{0}, at(1<<32+1, "ta"))
	// Cells side by side aren't one text.
	projectsTo(t, []api.Times{at(1, "ta", "tb", ""), at(2, "tatb", "", ""), at(4, "t", "atb", "")}, []int{0, 1}, at(4, "t", "atb"), at(1, "ta", "tb"), at(2, "tatb", ""))
	projectsTo(t, []api.Times{at(1, nothing, "ta"), at(2, "ta", nothing)}, []int{0, 1}, at(1, nothing, "ta"), at(2, "ta", nothing))
	projectsTo(t, []api.Times{at(1, nothing, "ta"), at(2, "ta", nothing)}, []int{1, 0}, at(2, nothing, "ta"), at(1, "ta", nothing))
}

// P18.1: in order: numbers as they stand, texts byte by byte, such as are no cells too.
func TestProjectInOrder(t *testing.T) {
	rising := []string{nothing, "\x00", no, yes, cell.Int(math.MinInt), cell.Int(-1), cell.Int(0), cell.Int(1), cell.Int(math.MaxInt), "t", "ta", "ta\x00", "taa", "tb", "t\x7f", "t\x80", "t\xff", "x", "\xff"}
	var want, turned []api.Times
	for i, c := range rising {
		want = append(want, at(i+1, c))
		turned = append(turned, at(i+1, "tz", cell.Int(-i), c))
	}
	for range turned {
		projectsTo(t, turned, []int{2}, want...)
		slices.Reverse(turned)
		projectsTo(t, turned, []int{2}, want...)
		slices.Reverse(turned)
		turned = append(turned[1:], turned[0])
	}
}

// P18.1: all short lists, by each choice of columns.
func TestProjectShortLists(t *testing.T) {
	for _, cols := range picks() {
		for _, l := range listsOf(few(), 4) {
			if got, want := Project(l, cols), projected(l, cols); !same(got, want) || !weigh.Right(got) {
				t.Fatalf("Project(%q, %v) = %q, not %q", fmt.Sprint(l), cols, fmt.Sprint(got), fmt.Sprint(want))
			}
		}
	}
}

// P18.2: of two lists, one behind the other or as rows in order, it is what it is of each, together.
func TestOfTogetherIsOfEachTogether(t *testing.T) {
	for _, l := range listsOf(few(), 4) {
		for i := range len(l) + 1 {
			a, b := l[:i], l[i:]
			both := together(l)
			for _, c := range conditions() {
				ofA, ofB := Filter(a, c.t), Filter(b, c.t)
				if !same(Filter(l, c.t), slices.Concat(ofA, ofB)) || !same(Filter(both, c.t), weigh.Sum(ofA, ofB)) {
					t.Fatalf("Filter of %q and %q, %q", fmt.Sprint(a), fmt.Sprint(b), fmt.Sprint(c.t))
				}
			}
			for _, cols := range picks() {
				want := weigh.Sum(Project(a, cols), Project(b, cols))
				if !same(Project(l, cols), want) || !same(Project(both, cols), want) {
					t.Fatalf("Project of %q and %q, %v", fmt.Sprint(a), fmt.Sprint(b), cols)
				}
			}
		}
	}
}

// P18.2: of each row alone, together; the other way round; and with it nothing is left.
func TestOfEachRowTogether(t *testing.T) {
	for _, l := range listsOf(few(), 3) {
		for _, c := range conditions() {
			var each []api.Times
			for _, x := range l {
				each = append(each, Filter([]api.Times{x}, c.t)...)
			}
			if got := Filter(l, c.t); !same(got, each) || !same(Filter(weigh.Minus(l), c.t), weigh.Minus(got)) || len(weigh.Of(Filter(slices.Concat(l, weigh.Minus(l)), c.t))) != 0 {
				t.Fatalf("Filter of %q, %q", fmt.Sprint(l), fmt.Sprint(c.t))
			}
		}
		for _, cols := range picks() {
			var each []api.Times
			for _, x := range l {
				each = weigh.Sum(each, Project([]api.Times{x}, cols))
			}
			if got := Project(l, cols); !same(got, each) || !same(Project(weigh.Minus(l), cols), weigh.Minus(got)) || len(Project(slices.Concat(l, weigh.Minus(l)), cols)) != 0 {
				t.Fatalf("Project of %q, %v", fmt.Sprint(l), cols)
			}
		}
	}
}

// P18.2: in whatever order rows come.
func TestOrderIsAllOne(t *testing.T) {
	l := []api.Times{at(2, "tb", "t1"), at(1, "ta", "t1"), at(-3, "tb", "t2"), at(1, "ta"), at(1, "tb", "t1"), at(4)}
	x := of('?', of('=', col(1), con("t1")))
	for _, in := range ordersOf(l) {
		projectsTo(t, in, []int{0}, at(2, "ta"))
		projectsTo(t, in, []int{1}, at(4, "t1"), at(-3, "t2"))
		projectsTo(t, in, []int{1, 0}, at(1, "t1", "ta"), at(3, "t1", "tb"), at(-3, "t2", "tb"))
		projectsTo(t, in, nil, at(6))
		if got := weigh.Of(Filter(in, x)); !same(got, []api.Times{at(4), at(1, "ta")}) {
			t.Fatalf("Filter of %q: %q", fmt.Sprint(in), fmt.Sprint(got))
		}
	}
}

// P18.1: what passes once its cells are taken passes ahead of that, asked of the columns that they come from.
func TestFilterOfProjected(t *testing.T) {
	for _, cols := range [][]int{{0, 1}, {1, 0}, {0, 0}, {1, 1}, {0, 1, 0}} {
		for _, c := range conditions() {
			moved, good := term.Shift(c.t, cols)
			if !good {
				continue
			}
			// Rows that have all of the columns, so that none is left out of one side alone.
			for _, l := range listsOf([]api.Times{at(1, cell.Int(1), "ta"), at(2, cell.Int(0), "ta"), at(-1, cell.Int(1), nothing), at(1, yes, no), at(-2, no, yes), at(1, nothing, yes), at(3, yes, yes)}, 3) {
				if got, want := Filter(Project(l, cols), c.t), Project(Filter(l, moved), cols); !same(got, want) {
					t.Fatalf("%q, %v, %q: %q, not %q", fmt.Sprint(l), cols, fmt.Sprint(c.t), fmt.Sprint(got), fmt.Sprint(want))
				}
			}
		}
	}
}

// Very many rows, far from their order.
func TestVeryManyRows(t *testing.T) {
	const many = 1 << 17
	var l []api.Times
	for i := range many {
		turned := i * 54321 % many
		l = append(l, at(1, cell.Int(turned%(many/4)), cell.Bool(turned%8 == 0), "t"))
	}
	passed := Filter(l, col(1))
	if len(passed) != many/8 {
		t.Fatalf("%d pass", len(passed))
	}
	place := 0
	for _, x := range l {
		if x.Row[1] == yes {
			if !slices.Equal(passed[place].Row, x.Row) {
				t.Fatalf("the one at %d doesn't stand as it stood", place)
			}
			place++
		}
	}
	got := Project(l, []int{2, 0})
	if len(got) != many/4 {
		t.Fatalf("%d rows", len(got))
	}
	for i, x := range got {
		if x.N != 4 || !slices.Equal(x.Row, []string{"t", cell.Int(i)}) {
			t.Fatalf("row %d is %q", i, fmt.Sprint(x))
		}
	}
	projectsTo(t, l, nil, at(many))
	projectsTo(t, passed, []int{1}, at(many/8, yes))
}

// Conditions of 65,536 parts, one in another, end, and very many columns too.
func TestDeepAndLong(t *testing.T) {
	x, y, z := col(0), col(0), con(yes)
	for range 1<<16 - 2 {
		x, y, z = of('!', x), of('&', y, con(yes)), of('|', col(1), z)
	}
	l := []api.Times{at(2, no), at(1, yes), at(3, nothing)}
	filtersTo(t, l, x, l[1])
	filtersTo(t, l, of('!', x), l[0])
	filtersTo(t, l, y, l[1])
	filtersTo(t, l, z, l...)
	const many = 1 << 16
	cols, row := make([]int, many), make([]string, many)
	for i := range many {
		cols[i], row[i] = many-1-i, cell.Int(i)
	}
	turned := slices.Clone(row)
	slices.Reverse(turned)
	projectsTo(t, []api.Times{at(1, row...), at(1, row[1:]...), at(2, row...)}, cols, at(3, turned...))
	projectsTo(t, []api.Times{at(1, "ta")}, make([]int, many), api.Times{Row: slices.Repeat([]string{"ta"}, many), N: 1})
}

// Wrong lists, terms and columns: a call ends, whatever it is given.
func TestWhateverIsGiven(t *testing.T) {
	l := append(few(), at(math.MaxInt, "ta"), at(math.MaxInt, "ta"), at(math.MinInt, "tb"), at(math.MinInt, "tb"), at(math.MinInt, "x"), api.Times{}, at(1, strings.Repeat("x", 1<<16)), at(1, make([]string, 1<<10)...))
	for _, in := range [][]api.Times{nil, l, make([]api.Times, 300)} {
		for _, c := range []int{0, 1, -1, 5, math.MaxInt, math.MinInt} {
			for op := range 256 {
				x := api.Term{Op: byte(op), Col: c, Cell: "\xff"}
				Filter(in, x)
				Filter(in, of(byte(op), x, x, x))
			}
			for _, d := range []int{0, 1, -1, 5, math.MaxInt, math.MinInt} {
				Project(in, []int{c, d})
				Project(in, []int{c, d, c})
			}
		}
	}
}

// answers are what the calls answer of l.
func answers(l []api.Times, x api.Term, cols []int) [][]api.Times {
	return [][]api.Times{Filter(l, con(yes)), Filter(l, x), Filter(l[1:], x), Filter(l, of('!', x)), Project(l, cols), Project(l, nil), Project(l, []int{0}), Project(l, []int{0, 1}), Project(l[:1], []int{0, 1}), Project(l, []int{1, 1})}
}

// changeAll changes each row of a list, its spare room too.
func changeAll(l []api.Times) {
	for i := range l {
		all := l[i].Row[:cap(l[i].Row)]
		for j := range all {
			all[j] = "changed"
		}
		l[i] = at(-99, "changed")
	}
}

// asIs is a text that has all of a list, its spare room too.
func asIs(l []api.Times) string {
	var b strings.Builder
	for _, x := range l[:cap(l)] {
		b.WriteString(fmt.Sprintf("%d %q %d; ", x.N, x.Row[:cap(x.Row)], len(x.Row)))
	}
	return b.String()
}

// given are rows with spare room in, and behind, a condition, and columns, with spare room too.
func given() ([]api.Times, api.Term, []int) {
	l := []api.Times{at(2, "tb", "tx", "spare"), at(1, "ta", "tx", "spare"), at(-2, "tb", "tx", "spare"), at(1, "tc", "tz", "spare"), at(9, "spare"), at(8, "spare")}
	for i := range 4 {
		l[i].Row = l[i].Row[:2]
	}
	kids := []api.Term{col(1), con("tx"), con("spare")}
	return l[:4], of('=', kids[:2]...), []int{1, 0, 7}[:2]
}

// What is handed in isn't changed, its spare room neither, and answers are new memory.
func TestNothingIsChangedOrShared(t *testing.T) {
	l, x, cols := given()
	was, kids, were := asIs(l), fmt.Sprintf("%#v", x.Kids[:3]), slices.Clone(cols[:3])
	want := answers(given())
	for range 2 {
		got := answers(l, x, cols)
		for i := range got {
			if !same(got[i], want[i]) {
				t.Fatalf("answer %d is %q, not %q", i, fmt.Sprint(got[i]), fmt.Sprint(want[i]))
			}
			changeAll(got[i])
			_ = append(got[i], at(-99, "more"))
		}
		if asIs(l) != was || fmt.Sprintf("%#v", x.Kids[:3]) != kids || !slices.Equal(cols[:3], were) {
			t.Fatalf("%s, %q, %v", asIs(l), fmt.Sprint(x), cols[:3])
		}
	}
	got := answers(l, x, cols)
	changeAll(l)
	x.Kids[0], x.Kids[1] = con(no), con("changed")
	cols[0], cols[1] = 5, 6
	for i := range got {
		if !same(got[i], want[i]) {
			t.Fatalf("answer %d hangs on what was handed in: %q", i, fmt.Sprint(got[i]))
		}
	}
}

// No two rows of an answer share cells, their spare room neither.
func TestRowsOfAnAnswerShareNothing(t *testing.T) {
	cells := []string{"ta", "tb", "tc", "td"}
	l := []api.Times{{Row: cells[:2], N: 1}, {Row: cells[:3], N: 1}, {Row: cells[1:], N: 1}}
	for i, got := range [][]api.Times{Filter(l, con(yes)), Filter(l, of('!', of('?', col(1)))), Project(l, []int{0, 1}), Project(l, []int{1}), Project(append(l, l...), []int{1, 0})} {
		if len(got) < 2 {
			t.Fatalf("answer %d has %d rows", i, len(got))
		}
		for changed := range got {
			was := deep(got)
			changeAll(got[changed : changed+1])
			was[changed] = got[changed]
			if !same(got, was) {
				t.Errorf("row %d of answer %d changed others: %q", changed, i, fmt.Sprint(got))
			}
		}
	}
}

// Any number of goroutines may call at once, of the same rows too.
func TestAtOnce(t *testing.T) {
	l, x, cols := given()
	want := answers(given())
	var all sync.WaitGroup
	for range 8 {
		all.Go(func() {
			for range 100 {
				if !slices.EqualFunc(answers(l, x, cols), want, same) {
					t.Error("calls at once aren't as one alone")
				}
			}
		})
	}
	all.Wait()
}
