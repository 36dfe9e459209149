package view

import (
	"fmt"
	"math"
	"math/big"
	"slices"
	"strconv"
	"strings"
	"sync"
	"testing"

	"distiller/api"
	"distiller/cell"
	"distiller/fold"
	"distiller/kinds"
	"distiller/pair"
	"distiller/shape"
	"distiller/sieve"
	"distiller/weigh"
)

const (
	yes     = "b\x01"
	no      = "b\x00"
	nothing = ""
)

// The columns of most tests.
var (
	text     = api.Col{Kind: 't'}
	textNull = api.Col{Kind: 't', Null: true}
	num      = api.Col{Kind: 'i'}
	numNull  = api.Col{Kind: 'i', Null: true}
	truth    = api.Col{Kind: 'b'}
	some     = api.Col{Kind: 'b', Null: true}
)

// How rows are taken together, of the first column where it isn't named.
var (
	count    = api.Agg{Way: 1}
	sum      = api.Agg{Way: 2}
	least    = api.Agg{Way: 3}
	greatest = api.Agg{Way: 4}
)

// by is the way, of another column.
func by(a api.Agg, col int) api.Agg {
	a.Col = col
	return a
}

// cols are these columns.
func cols(l ...api.Col) []api.Col { return l }

// aggs are these ways.
func aggs(l ...api.Agg) []api.Agg { return l }

// on are these columns, by two.
func on(l ...[2]int) [][2]int { return l }

// times is a row of these cells, so often.
func times(n int, cells ...string) api.Times { return api.Times{Row: cells, N: n} }

// col is a column, con a constant, op an Op of these parts.
func col(c int) api.Term                       { return api.Term{Op: 'c', Col: c} }
func con(c string) api.Term                    { return api.Term{Op: 'k', Cell: c} }
func op(sign byte, parts ...api.Term) api.Term { return api.Term{Op: sign, Kids: parts} }
func all() api.Term                            { return con(yes) }

// one is a view of one table, two one of two, that have all rows.
func one(c []int, a ...api.Agg) api.View {
	return api.View{Left: "left", Where: all(), Cols: c, Aggs: a}
}

func two(o [][2]int, c []int, a ...api.Agg) api.View {
	return api.View{Left: "left", Right: "right", On: o, Where: all(), Cols: c, Aggs: a}
}

// where is the view of those rows that pass.
func where(v api.View, t api.Term) api.View {
	v.Where = t
	return v
}

// same tells whether two lists have the same rows, as often, as they stand.
func same(a, b []api.Times) bool {
	return slices.EqualFunc(a, b, func(x, y api.Times) bool { return x.N == y.N && slices.Equal(x.Row, y.Row) })
}

// deep is the list in memory of its own.
func deep(l []api.Times) []api.Times {
	out := make([]api.Times, len(l))
	for i, x := range l {
		out[i] = api.Times{Row: slices.Clone(x.Row), N: x.N}
	}
	return out
}

// listsOf are all lists of up to most of these.
func listsOf[T any](these []T, most int) [][]T {
	var l [][]T
	var longer func(ahead []T)
	longer = func(ahead []T) {
		l = append(l, ahead)
		if len(ahead) == most {
			return
		}
		for _, x := range these {
			longer(append(slices.Clip(ahead), x))
		}
	}
	longer(nil)
	return l
}

// named is a text by which cells are told apart: each behind how long it is.
func named(cells []string) string {
	var b strings.Builder
	for _, c := range cells {
		b.WriteString(strconv.Itoa(len(c)) + ":" + c)
	}
	return b.String()
}

// inOrder are the rows by their cells, the shorter one ahead.
func inOrder(l []api.Times) []api.Times {
	slices.SortFunc(l, func(x, y api.Times) int {
		for i := 0; i < len(x.Row) && i < len(y.Row); i++ {
			if x.Row[i] != y.Row[i] {
				return strings.Compare(x.Row[i], y.Row[i])
			}
		}
		return len(x.Row) - len(y.Row)
	})
	return l
}

// colAt is the column at that place, and whether there is one.
func colAt(l []api.Col, place int) (api.Col, bool) {
	for i, c := range l {
		if i == place {
			return c, true
		}
	}
	return api.Col{}, false
}

// faults are all errors of what is asked, in order, by the chapter's words.
func faults(v api.View, left, right []api.Col) []api.Errno {
	var l []api.Errno
	tell := func(wrong bool, err api.Errno) {
		if wrong {
			l = append(l, err)
		}
	}
	if v.Right == "" {
		right = nil
	}
	both := slices.Concat(left, right)
	for _, o := range v.On {
		a, hasA := colAt(left, o[0])
		b, hasB := colAt(right, o[1])
		tell(!hasA || !hasB, api.ErrArg)
		tell(hasA && hasB && a.Kind != b.Kind, api.ErrKind)
	}
	tell(len(v.On) > 6 || v.Right == "" && len(v.On) > 0 || v.Right != "" && len(v.On) == 0, api.ErrArg)
	err := kinds.Where(v.Where, both)
	tell(err != api.OK, err)
	for _, c := range v.Cols {
		_, has := colAt(both, c)
		tell(!has, api.ErrArg)
	}
	for _, a := range v.Aggs {
		c, has := colAt(both, a.Col)
		tell(a.Way < 1 || a.Way > 4 || a.Way == 1 && a.Col != 0 || a.Way > 1 && !has, api.ErrArg)
		tell(a.Way == 2 && has && c.Kind != 'i', api.ErrKind)
	}
	tell(len(v.Aggs) > 4, api.ErrArg)
	many := len(v.Cols) + len(v.Aggs)
	tell(many < 1 || many > 6, api.ErrArg)
	for _, c := range under(v, both) {
		tell(!strings.ContainsRune("bit", rune(c.Kind)), api.ErrArg)
	}
	return l
}

// under are the columns of a view's rows, of those that are there.
func under(v api.View, both []api.Col) []api.Col {
	var l []api.Col
	for _, place := range v.Cols {
		if c, has := colAt(both, place); has {
			l = append(l, c)
		}
	}
	for _, a := range v.Aggs {
		c, has := colAt(both, a.Col)
		if a.Way == 1 {
			l = append(l, num)
		} else if has {
			l = append(l, api.Col{Kind: c.Kind, Null: true})
		}
	}
	return l
}

// cellAt is the row's cell, nothing where it has none.
func cellAt(row []string, place int) string {
	if place < 0 || place >= len(row) {
		return nothing
	}
	return row[place]
}

// condition is a term, and by the chapter's words, without it, whether it is yes of a row.
type condition struct {
	t      api.Term
	passes func(row []string) bool
}

// lookedAt is what Rows is to be: each row with each, counted by a map, and those that pass.
func lookedAt(v api.View, c condition, left, right []api.Times) []api.Times {
	if v.Right != "" {
		left = joined(left, right, v.On)
	}
	var l []api.Times
	for _, x := range left {
		if c.passes(x.Row) {
			l = append(l, x)
		}
	}
	return l
}

// joined is each row with each that has the same, in order.
func joined(left, right []api.Times, on [][2]int) []api.Times {
	var l []api.Times
	for _, x := range left {
	rows:
		for _, y := range right {
			for _, o := range on {
				if c := cellAt(x.Row, o[0]); c == nothing || c != cellAt(y.Row, o[1]) {
					continue rows
				}
			}
			l = append(l, times(x.N*y.N, slices.Concat(x.Row, y.Row)...))
		}
	}
	return counted(l)
}

// counted are the rows, each once, as often as all of it together, in order.
func counted(l []api.Times) []api.Times {
	many, rows := map[string]int{}, map[string][]string{}
	for _, x := range l {
		many[named(x.Row)] += x.N
		rows[named(x.Row)] = x.Row
	}
	var out []api.Times
	for name, n := range many {
		out = append(out, times(n, rows[name]...))
	}
	return inOrder(out)
}

// takenOf is what Take is to be, by maps, and numbers without ends.
func takenOf(v api.View, rows []api.Times) ([]api.Times, api.Errno) {
	groups, keys := map[string][]api.Times{}, map[string][]string{}
	var each []api.Times
rows:
	for _, x := range rows {
		var key []string
		for _, c := range v.Cols {
			if c < 0 || c >= len(x.Row) {
				continue rows
			}
			key = append(key, x.Row[c])
		}
		groups[named(key)], keys[named(key)] = append(groups[named(key)], x), key
		each = append(each, times(x.N, key...))
	}
	out := counted(each)
	if len(v.Aggs) > 0 {
		out = nil
		for name, l := range groups {
			row := slices.Clone(keys[name])
			for _, a := range v.Aggs {
				c, err := valueOf(l, a)
				if err != api.OK {
					return nil, err
				}
				row = append(row, c)
			}
			out = append(out, times(1, row...))
		}
		out = inOrder(out)
	}
	if len(out) > 1000 {
		return nil, api.ErrLarge
	}
	return out, api.OK
}

// valueOf is what rows come to in one way.
func valueOf(l []api.Times, a api.Agg) (string, api.Errno) {
	rows, sum := new(big.Int), new(big.Int)
	var cells []string
	for _, x := range l {
		rows.Add(rows, big.NewInt(int64(x.N)))
		if c := cellAt(x.Row, a.Col); c != nothing {
			cells = append(cells, c)
			n, _ := cell.Num(c)
			sum.Add(sum, new(big.Int).Mul(big.NewInt(int64(n)), big.NewInt(int64(x.N))))
		}
	}
	slices.Sort(cells)
	switch {
	case a.Way == 1:
		return numberCell(rows)
	case len(cells) == 0:
		return nothing, api.OK
	case a.Way == 2:
		return numberCell(sum)
	case a.Way == 3:
		return cells[0], api.OK
	}
	return cells[len(cells)-1], api.OK
}

// numberCell is the cell of a number without ends; ErrOver beyond 64 bits.
func numberCell(n *big.Int) (string, api.Errno) {
	if !n.IsInt64() {
		return nothing, api.ErrOver
	}
	return cell.Int(int(n.Int64())), api.OK
}

// stands asks Columns, where what is asked may be.
func stands(t *testing.T, v api.View, left, right []api.Col, want ...api.Col) {
	t.Helper()
	if got, err := Columns(v, left, right); err != api.OK || !slices.Equal(got, want) {
		t.Errorf("Columns(%.300q, %v, %v) = %v, %d, not %v", fmt.Sprint(v), left, right, got, err, want)
	}
}

// refuses asks Columns, where what is asked may not be.
func refuses(t *testing.T, v api.View, left, right []api.Col, want api.Errno) {
	t.Helper()
	if got, err := Columns(v, left, right); err != want || len(got) > 0 {
		t.Errorf("Columns(%.300q, %.300q, %.300q) = %v, %d, not %d", fmt.Sprint(v), fmt.Sprint(left), fmt.Sprint(right), got, err, want)
	}
}

// looksAt asks Rows.
func looksAt(t *testing.T, v api.View, left, right []api.Times, want ...api.Times) {
	t.Helper()
	if got := Rows(v, left, right); !same(got, want) {
		t.Errorf("Rows(%.300q, %.500q, %.500q) = %.500q, not %.500q", fmt.Sprint(v), fmt.Sprint(left), fmt.Sprint(right), fmt.Sprint(got), fmt.Sprint(want))
	}
}

// takes asks Take, where there is no error.
func takes(t *testing.T, v api.View, rows []api.Times, want ...api.Times) {
	t.Helper()
	if got, err := Take(v, rows); err != api.OK || !same(got, want) {
		t.Errorf("Take(%.300q, %.500q) = %.500q, %d, not %.500q", fmt.Sprint(v), fmt.Sprint(rows), fmt.Sprint(got), err, fmt.Sprint(want))
	}
}

// takesNone asks Take, where there is an error, and Answer of one table, which has it too.
func takesNone(t *testing.T, v api.View, rows []api.Times, want api.Errno) {
	t.Helper()
	if got, err := Take(v, rows); err != want || len(got) > 0 {
		t.Errorf("Take(%.300q, %.300q) = %.300q, %d, not %d", fmt.Sprint(v), fmt.Sprint(rows), fmt.Sprint(got), err, want)
	}
	if got, err := Answer(v, rows, nil); v.Right == "" && (err != want || len(got) > 0) {
		t.Errorf("Answer(%.300q, %.300q) = %.300q, %d, not %d", fmt.Sprint(v), fmt.Sprint(rows), fmt.Sprint(got), err, want)
	}
}

// answers asks Answer, where there is no error.
func answers(t *testing.T, v api.View, left, right []api.Times, want ...api.Times) {
	t.Helper()
	if got, err := Answer(v, left, right); err != api.OK || !same(got, want) {
		t.Errorf("Answer(%.300q, %.500q, %.500q) = %.500q, %d, not %.500q", fmt.Sprint(v), fmt.Sprint(left), fmt.Sprint(right), fmt.Sprint(got), err, fmt.Sprint(want))
	}
}

// P22.1: Joined: both, one behind the other, whatever they are.
func TestJoined(t *testing.T) {
	odd := api.Col{Kind: 99, Null: true}
	for _, c := range [][3][]api.Col{
		{nil, nil, nil},
		{cols(), cols(), cols()},
		{cols(text, num), nil, cols(text, num)},
		{nil, cols(some, truth), cols(some, truth)},
		{cols(text, numNull), cols(num, truth, text), cols(text, numNull, num, truth, text)},
		{cols(num), cols(num), cols(num, num)},
		{cols(odd, api.Col{}), cols(odd), cols(odd, api.Col{}, odd)},
		{cols(num, num, num, num, num, num), cols(text, text), cols(num, num, num, num, num, num, text, text)},
	} {
		if got := Joined(c[0], c[1]); !slices.Equal(got, c[2]) {
			t.Errorf("Joined(%v, %v) = %v, not %v", c[0], c[1], got, c[2])
		}
	}
	for _, left := range listsOf(cols(text, num, some), 3) {
		for _, right := range listsOf(cols(textNull, num), 3) {
			got := Joined(left, right)
			if len(got) != len(left)+len(right) || !slices.Equal(got[:len(left)], left) || !slices.Equal(got[len(left):], right) {
				t.Errorf("Joined(%v, %v) = %v", left, right, got)
			}
		}
	}
}

// P22.1: Columns, written out: those of Cols, as they stand, then those of Aggs.
func TestColumnsWrittenOut(t *testing.T) {
	l, r := cols(text, numNull, some), cols(num, textNull)
	stands(t, one([]int{0}), l, nil, text)
	stands(t, one([]int{1}), l, nil, numNull)
	stands(t, one([]int{2, 0, 1, 0}), l, nil, some, text, numNull, text)
	stands(t, one(nil, count), l, nil, num)
	stands(t, one(nil, by(sum, 1)), l, nil, numNull)
	stands(t, one([]int{}, least), l, nil, textNull)
	stands(t, one(nil, by(greatest, 2)), l, nil, some)
	stands(t, one([]int{1, 0}, by(greatest, 1), count, least, by(sum, 1)), l, nil, numNull, text, numNull, num, textNull, numNull)
	stands(t, one([]int{0}, count, count), l, nil, text, num, num)
	// What may not be nothing may be, where rows are taken together by others.
	stands(t, one(nil, sum, least, greatest), cols(num), nil, numNull, numNull, numNull)
	stands(t, one(nil, least, greatest), cols(truth), nil, some, some)
	stands(t, one(nil, least, greatest), cols(textNull), nil, textNull, textNull)
	// Of two tables the second one's columns stand behind the first one's.
	stands(t, two(on([2]int{0, 1}), []int{0, 3, 4, 1, 2}), l, r, text, num, textNull, numNull, some)
	stands(t, two(on([2]int{1, 0}, [2]int{0, 1}), []int{4}, by(sum, 3), by(least, 4), by(greatest, 1)), l, r, textNull, numNull, textNull, numNull)
	stands(t, two(on([2]int{0, 0}), nil, count), cols(num), cols(numNull), num)
	// A table with itself.
	stands(t, two(on([2]int{0, 0}, [2]int{1, 1}, [2]int{2, 2}), []int{2, 5, 3, 0}), l, l, some, some, text, text)
	// What the table is called is all one.
	v := one([]int{0})
	v.Left = ""
	stands(t, v, l, r, text)
	v = two(on([2]int{0, 0}), []int{1})
	v.Left, v.Right = "", "\x00"
	stands(t, v, cols(num), cols(num), num)
}

// P22.1: the example: without Cols, and without Aggs, ErrArg.
func TestColumnsOfNone(t *testing.T) {
	refuses(t, one(nil), cols(text, num), nil, api.ErrArg)
	refuses(t, one([]int{}, aggs()...), cols(text, num), nil, api.ErrArg)
	refuses(t, two(on([2]int{0, 0}), nil), cols(text), cols(text), api.ErrArg)
	refuses(t, api.View{}, nil, nil, api.ErrArg)
	refuses(t, api.View{}, cols(text), cols(text), api.ErrArg)
	// How many rows there are can be asked of a table without columns, too.
	stands(t, one(nil, count), nil, nil, num)
	refuses(t, one([]int{0}, count), nil, nil, api.ErrArg)
	refuses(t, one(nil, sum), nil, nil, api.ErrArg)
	refuses(t, one(nil, least), nil, nil, api.ErrArg)
}

// P22.1: where Right is empty, right counts as none: of On, of Where, of Cols and of Aggs.
func TestColumnsOfOneTable(t *testing.T) {
	l, r := cols(text, num), cols(num, truth)
	for _, right := range [][]api.Col{nil, r, cols(text, num), cols(api.Col{Kind: 7})} {
		stands(t, one([]int{1, 0}), l, right, num, text)
		stands(t, one(nil, by(sum, 1), count), l, right, numNull, num)
		refuses(t, one([]int{2}), l, right, api.ErrArg)
		refuses(t, one([]int{0, 3}), l, right, api.ErrArg)
		refuses(t, one(nil, by(least, 2)), l, right, api.ErrArg)
		refuses(t, one(nil, by(sum, 2)), l, right, api.ErrArg)
		refuses(t, where(one([]int{0}), op('?', col(2))), l, right, api.ErrArg)
		stands(t, where(one([]int{0}), op('?', col(1))), l, right, text)
		for _, o := range [][2]int{{0, 0}, {1, 0}, {0, 1}, {1, 1}, {-1, 0}} {
			v := one([]int{0})
			v.On = on(o)
			refuses(t, v, l, right, api.ErrArg)
			v.Where = con(cell.Int(1))
			refuses(t, v, l, right, api.ErrArg)
		}
	}
	// Just there it is so: of two tables each of these may be.
	stands(t, two(on([2]int{1, 0}), []int{2, 3}, by(sum, 2)), l, r, num, truth, numNull)
	stands(t, where(two(on([2]int{1, 0}), []int{0}), op('&', col(3), op('?', col(2)))), l, r, text)
	refuses(t, where(two(on([2]int{1, 0}), []int{0}), op('?', col(4))), l, r, api.ErrArg)
	refuses(t, two(on([2]int{1, 0}), []int{4}), l, r, api.ErrArg)
	refuses(t, two(on([2]int{1, 0}), nil, by(least, 4)), l, r, api.ErrArg)
	stands(t, two(on([2]int{1, 0}), nil, by(least, 3)), l, r, some)
}

// P22.1: On: both tables must have the columns, of one kind, each at its side.
func TestColumnsOn(t *testing.T) {
	l, r := cols(text, numNull, truth), cols(num, some)
	ends := []int{math.MinInt, math.MinInt + 1, -2, -1, 3, 4, math.MaxInt - 1, math.MaxInt}
	for i, a := range l {
		for j, b := range r {
			v := two(on([2]int{i, j}), []int{0})
			if a.Kind == b.Kind {
				stands(t, v, l, r, text)
			} else {
				refuses(t, v, l, r, api.ErrKind)
			}
		}
		for _, end := range append(ends, 2) {
			refuses(t, two(on([2]int{i, end}), []int{0}), l, r, api.ErrArg)
			refuses(t, two(on([2]int{end, i}), []int{0}), r, l, api.ErrArg)
		}
	}
	for _, end := range ends {
		refuses(t, two(on([2]int{end, 0}), []int{0}), l, r, api.ErrArg)
		refuses(t, two(on([2]int{end, end}), []int{0}), l, r, api.ErrArg)
		refuses(t, two(on([2]int{1, 0}, [2]int{end, 1}), []int{0}), l, r, api.ErrArg)
		refuses(t, two(on([2]int{1, 0}, [2]int{2, end}, [2]int{2, 1}), []int{0}), l, r, api.ErrArg)
	}
	refuses(t, two(on([2]int{0, 0}), []int{0}), nil, r, api.ErrArg)
	refuses(t, two(on([2]int{0, 0}), []int{0}), l, nil, api.ErrArg)
	refuses(t, two(on([2]int{0, 0}), nil, count), nil, nil, api.ErrArg)
	// Whatever that kind is: a column may be joined by that can't be told.
	odd := api.Col{Kind: 'x'}
	stands(t, two(on([2]int{0, 0}), []int{1}), cols(odd, num), cols(odd), num)
	stands(t, two(on([2]int{0, 0}), nil, count), cols(api.Col{}), cols(api.Col{Null: true}), num)
	refuses(t, two(on([2]int{0, 0}), nil, count), cols(api.Col{}), cols(num), api.ErrKind)
	// The spare room of a table's columns isn't there.
	refuses(t, two(on([2]int{1, 0}), []int{0}), l[:1], r, api.ErrArg)
	refuses(t, two(on([2]int{1, 1}), []int{0}), l, r[:1], api.ErrArg)
}

// P22.1: of On that has more than one that is wrong the first one is told, whatever it is.
func TestColumnsOnFirst(t *testing.T) {
	l, r := cols(text, num), cols(num, text)
	right, arg, kind := [2]int{0, 1}, [2]int{2, 0}, [2]int{0, 0}
	for _, o := range listsOf([][2]int{right, arg, {0, 2}, kind, {1, 1}, {1, 0}}, 4) {
		want := api.OK
		for _, x := range o {
			if want == api.OK && x != right && x != [2]int{1, 0} {
				want = api.ErrArg
				if x == kind || x == [2]int{1, 1} {
					want = api.ErrKind
				}
			}
		}
		if len(o) == 0 {
			want = api.ErrArg
		}
		if want == api.OK {
			stands(t, two(o, []int{0}), l, r, text)
		} else {
			refuses(t, two(o, []int{0}), l, r, want)
		}
	}
}

// P22.1: On has 1 to 6 of two tables, and none of one; what is wrong in it, however far behind, is told ahead of that.
func TestColumnsOnHowMany(t *testing.T) {
	l, r := cols(text, num), cols(num, text)
	for many := range 40 {
		o := slices.Repeat(on([2]int{0, 1}), many)
		if many >= 1 && many <= 6 {
			stands(t, two(o, []int{3}), l, r, text)
		} else {
			refuses(t, two(o, []int{3}), l, r, api.ErrArg)
			refuses(t, where(two(o, []int{3}), con(cell.Int(1))), l, r, api.ErrArg)
			refuses(t, where(two(o, nil), op('=', con(yes), con(cell.Int(1)))), l, r, api.ErrArg)
		}
		for place := range many {
			wrong := slices.Clone(o)
			wrong[place] = [2]int{0, 0}
			refuses(t, two(wrong, []int{3}), l, r, api.ErrKind)
			wrong[place] = [2]int{0, 2}
			refuses(t, two(wrong, []int{3}), l, r, api.ErrArg)
		}
		v := one([]int{1})
		v.On = o
		if many == 0 {
			stands(t, v, l, r, num)
		} else {
			refuses(t, v, l, r, api.ErrArg)
		}
	}
}

// long is a condition of so many parts: ! of ! and so on of yes.
func long(many int) api.Term {
	t := all()
	for range many - 1 {
		t = op('!', t)
	}
	return t
}

// P22.1: Where: its errors under the columns of both, and no other.
func TestColumnsWhere(t *testing.T) {
	l, r := cols(text, num), cols(truth, num)
	for _, c := range []struct {
		t   api.Term
		err api.Errno
	}{
		{all(), api.OK},
		{con(no), api.OK},
		{con(nothing), api.OK},
		{con(cell.Int(1)), api.ErrKind},
		{con("ta"), api.ErrKind},
		{con("x"), api.ErrArg},
		{api.Term{}, api.ErrArg},
		{col(0), api.ErrKind},
		{col(1), api.ErrKind},
		{col(2), api.OK},
		{col(3), api.ErrKind},
		{col(4), api.ErrArg},
		{col(-1), api.ErrArg},
		{col(math.MaxInt), api.ErrArg},
		{op('<', col(1), col(3)), api.OK},
		{op('=', col(0), col(1)), api.ErrKind},
		{op('=', col(0), col(2)), api.ErrKind},
		{op('&', col(2), op('?', col(0))), api.OK},
		{op('&', col(2), col(3)), api.ErrKind},
		{op('&', col(2)), api.ErrArg},
		{op('!'), api.ErrArg},
		{op('+', col(1), col(3)), api.ErrArg},
		{long(30), api.OK},
		{long(31), api.ErrLarge},
		{op('x', long(31)), api.ErrLarge},
		{long(1 << 16), api.ErrLarge},
	} {
		v := where(two(on([2]int{1, 1}), []int{1}), c.t)
		if c.err == api.OK {
			stands(t, v, l, r, num)
		} else {
			refuses(t, v, l, r, c.err)
		}
		// It is told ahead of what is wrong behind it.
		for _, w := range []api.View{two(on([2]int{1, 1}), []int{4}), two(on([2]int{1, 1}), nil), two(on([2]int{1, 1}), []int{0}, api.Agg{}), two(on([2]int{1, 1}), nil, sum), two(on([2]int{1, 1}), nil, count, count, count, count, count)} {
			want := c.err
			if want == api.OK {
				_, want = Columns(w, l, r)
				if want == api.OK {
					t.Fatalf("%v may be", w)
				}
			}
			refuses(t, where(w, c.t), l, r, want)
		}
	}
}

// P22.1: Cols: each must be there; ErrArg, ahead of what is wrong with Aggs.
func TestColumnsCols(t *testing.T) {
	l, r := cols(text, numNull), cols(num)
	both := cols(text, numNull, num)
	ends := []int{math.MinInt, -4, -1, 3, 4, 99, math.MaxInt}
	for _, places := range listsOf([]int{0, 1, 2}, 3) {
		if len(places) == 0 {
			continue
		}
		var want []api.Col
		for _, c := range places {
			want = append(want, both[c])
		}
		stands(t, two(on([2]int{1, 0}), places), l, r, want...)
		stands(t, two(on([2]int{1, 0}), places, count), l, r, append(want, num)...)
		for _, end := range ends {
			for i := range places {
				wrong := slices.Clone(places)
				wrong[i] = end
				refuses(t, two(on([2]int{1, 0}), wrong), l, r, api.ErrArg)
				// The sum of texts is an ErrKind, but behind it.
				refuses(t, two(on([2]int{1, 0}), wrong, sum), l, r, api.ErrArg)
			}
		}
		refuses(t, two(on([2]int{1, 0}), places, sum), l, r, api.ErrKind)
		refuses(t, two(on([2]int{1, 0}), append(slices.Clone(places), 3), sum), l, r, api.ErrArg)
	}
	// The spare room of the second table's columns isn't there.
	refuses(t, two(on([2]int{1, 0}), []int{3}), l, cols(num, text)[:1], api.ErrArg)
}

// P22.1: Aggs: the ways that there are, of columns that are there; of AggCount none but 0.
func TestColumnsAggs(t *testing.T) {
	l := cols(text, num, truth)
	ends := []int{math.MinInt, -3, -1, 3, 4, 99, math.MaxInt}
	for _, way := range []int{math.MinInt, -2, -1, 0, 5, 6, 257, 258, 260, 1 << 32, 1<<32 + 1, math.MaxInt} {
		for _, c := range append(ends, 0, 1, 2) {
			refuses(t, one([]int{0}, api.Agg{Way: way, Col: c}), l, nil, api.ErrArg)
			refuses(t, one(nil, count, api.Agg{Way: way, Col: c}), l, nil, api.ErrArg)
		}
	}
	for _, c := range append(ends, 1, 2) {
		refuses(t, one([]int{0}, by(count, c)), l, nil, api.ErrArg)
	}
	for _, c := range ends {
		for _, a := range aggs(sum, least, greatest) {
			refuses(t, one([]int{0}, by(a, c)), l, nil, api.ErrArg)
			refuses(t, one([]int{0}, count, by(a, c)), l, nil, api.ErrArg)
			refuses(t, one([]int{0}, by(a, c), count), l, nil, api.ErrArg)
		}
	}
	for c, x := range l {
		for _, a := range aggs(least, greatest) {
			stands(t, one(nil, by(a, c)), l, nil, api.Col{Kind: x.Kind, Null: true})
		}
	}
	refuses(t, one(nil, by(sum, 0)), l, nil, api.ErrKind)
	stands(t, one(nil, by(sum, 1)), l, nil, numNull)
	refuses(t, one(nil, by(sum, 2)), l, nil, api.ErrKind)
	// The first one that is wrong is told.
	arg, kind, right := by(least, 3), by(sum, 0), by(sum, 1)
	for _, a := range listsOf(aggs(arg, kind, right, by(count, 1), by(sum, 2), api.Agg{}, api.Agg{Way: 5, Col: 1}), 4) {
		want := api.ErrArg
		for i := len(a) - 1; i >= 0; i-- {
			switch a[i] {
			case kind, by(sum, 2):
				want = api.ErrKind
			case right:
				if i == len(a)-1 {
					want = api.OK
				}
			default:
				want = api.ErrArg
			}
		}
		if want == api.OK {
			stands(t, one(nil, a...), l, nil, slices.Repeat(cols(numNull), len(a))...)
		} else {
			refuses(t, one(nil, a...), l, nil, want)
		}
	}
}

// P22.1: each byte as the kind of a column: it may be told, or not; joined by, and left out, it is all one.
func TestColumnsOfEachKind(t *testing.T) {
	for k := range 256 {
		odd := api.Col{Kind: byte(k), Null: k%2 == 0}
		may := k == 'b' || k == 'i' || k == 't'
		l := cols(num, odd)
		stands(t, one([]int{0}), l, nil, num)
		stands(t, one(nil, count), l, nil, num)
		stands(t, two(on([2]int{1, 1}), []int{2}), l, l, num)
		for _, a := range [][]api.Agg{nil, {count}, {sum}, {count, least}} {
			v, w := one([]int{1}, a...), one([]int{0, 1}, a...)
			if _, err := Columns(v, l, nil); may != (err == api.OK) || !may && err != api.ErrArg {
				t.Errorf("of kind %d: %d", k, err)
			}
			if _, err := Columns(w, l, nil); may != (err == api.OK) || !may && err != api.ErrArg {
				t.Errorf("of kind %d: %d", k, err)
			}
		}
		for _, a := range aggs(by(least, 1), by(greatest, 1)) {
			if !may {
				refuses(t, one(nil, a), l, nil, api.ErrArg)
				refuses(t, one([]int{0}, count, a), l, nil, api.ErrArg)
				// That a column may not be stands behind the ways.
				refuses(t, one([]int{1}, a, by(sum, 1)), l, nil, api.ErrKind)
			} else {
				stands(t, one(nil, a), l, nil, api.Col{Kind: byte(k), Null: true})
			}
		}
		if k == 'i' {
			stands(t, one(nil, by(sum, 1)), l, nil, numNull)
		} else {
			refuses(t, one(nil, by(sum, 1)), l, nil, api.ErrKind)
		}
	}
}

// P22.1: 1 to 6 columns, and at most 4 ways; behind what is wrong with each.
func TestColumnsHowMany(t *testing.T) {
	l := cols(text, num)
	for many := range 12 {
		for ways := range 12 {
			v := one(make([]int, many), slices.Repeat(aggs(by(sum, 1)), ways)...)
			if ways <= 4 && many+ways >= 1 && many+ways <= 6 {
				stands(t, v, l, nil, append(slices.Repeat(cols(text), many), slices.Repeat(cols(numNull), ways)...)...)
			} else {
				refuses(t, v, l, nil, api.ErrArg)
			}
			for i := range v.Aggs {
				wrong := slices.Clone(v.Aggs)
				wrong[i].Col = 0
				refuses(t, one(v.Cols, wrong...), l, nil, api.ErrKind)
			}
		}
	}
	// Tables may have more columns together than the view may.
	l = cols(text, num, truth, text, num, truth)
	stands(t, two(on([2]int{0, 0}), []int{11, 6, 5}, by(sum, 10), by(least, 9)), l, l, truth, text, truth, numNull, textNull)
}

// whats are conditions of each sort, as P22.1 tells them apart.
func whats() []api.Term {
	return []api.Term{all(), col(0), col(2), op('=', col(1), col(2)), op('?', col(3)), con("x"), long(31)}
}

// P22.1: all short views under a few tables, against the chapter's words: which error is first, and the columns.
func TestColumnsOfShortViews(t *testing.T) {
	tables := [][2][]api.Col{
		{cols(text, numNull), cols(text, num)},
		{cols(truth, num), cols(some)},
		{cols(num), cols(api.Col{Kind: 'x'}, num, textNull)},
		{nil, cols(num)},
		{cols(some, some, text, num), nil},
	}
	ons := append(listsOf(on([2]int{0, 0}, [2]int{0, 1}, [2]int{1, 1}, [2]int{2, 0}, [2]int{-1, 0}), 2), slices.Repeat(on([2]int{0, 0}), 7))
	colss := [][]int{nil, {0}, {1, 0}, {2}, {3, 1}, {-1}, {0, 9}, {0, 0, 0, 0, 0}}
	aggss := append(listsOf(aggs(count, by(count, 1), by(sum, 1), least, by(greatest, 2), api.Agg{}), 1), aggs(count, by(sum, 0)), aggs(by(sum, 0), by(least, 4)), aggs(by(least, 4), by(sum, 0)), aggs(least, by(sum, 3)), aggs(count, count, count, count, by(sum, 1)), aggs(count, count, count, count, count))
	told := map[api.Errno]int{}
	for _, both := range tables {
		for _, o := range ons {
			for _, w := range whats() {
				for _, c := range colss {
					for _, a := range aggss {
						for _, right := range []string{"", "r"} {
							v := api.View{Left: "l", Right: right, On: o, Where: w, Cols: c, Aggs: a}
							l := faults(v, both[0], both[1])
							if len(l) > 0 {
								told[l[0]]++
								refuses(t, v, both[0], both[1], l[0])
								continue
							}
							told[api.OK]++
							second := both[1]
							if right == "" {
								second = nil
							}
							stands(t, v, both[0], both[1], under(v, slices.Concat(both[0], second))...)
						}
					}
				}
			}
		}
	}
	for _, err := range []api.Errno{api.OK, api.ErrArg, api.ErrKind, api.ErrLarge} {
		if told[err] < 500 {
			t.Errorf("just %d of %d", told[err], err)
		}
	}
	if len(told) != 4 {
		t.Errorf("others: %v", told)
	}
}

// rowsLeft and rowsRight are tables' rows, in no order, some more than once.
func rowsLeft() []api.Times {
	return []api.Times{times(2, "tb", cell.Int(5)), times(1, "ta", nothing), times(3, "ta", cell.Int(-1)), times(1, "tb", cell.Int(5)), times(1, "tc", cell.Int(7))}
}

func rowsRight() []api.Times {
	return []api.Times{times(4, cell.Int(5), yes), times(1, cell.Int(-1), no), times(1, nothing, yes), times(1, cell.Int(-1), nothing)}
}

// P22.2: Rows, written out, of one table: those that pass, as they stand.
func TestRowsOfOne(t *testing.T) {
	l := rowsLeft()
	looksAt(t, one([]int{0}), l, nil, l...)
	looksAt(t, where(one([]int{0}), con(no)), l, nil)
	looksAt(t, where(one([]int{0}), con(nothing)), l, nil)
	looksAt(t, where(one([]int{0}), op('=', col(0), con("tb"))), l, nil, l[0], l[3])
	looksAt(t, where(one([]int{0}), op('<', col(1), con(cell.Int(5)))), l, nil, l[2])
	looksAt(t, where(one([]int{0}), op('!', op('<', col(1), con(cell.Int(5))))), l, nil, l[0], l[3], l[4])
	looksAt(t, where(one([]int{0}), op('?', col(1))), l, nil, l[1])
	looksAt(t, one([]int{0}), nil, nil)
	looksAt(t, one([]int{0}), l[:0], nil)
	looksAt(t, one([]int{0}), l[:1], nil, l[0])
	// The other table is all one, and so is what it would be joined by.
	looksAt(t, one([]int{0}), l, rowsRight(), l...)
	looksAt(t, one([]int{0}), nil, rowsRight())
	v := where(one([]int{0}), op('=', col(0), con("ta")))
	v.On = on([2]int{1, 0})
	looksAt(t, v, l, rowsRight(), l[1], l[2])
	v.Left = ""
	looksAt(t, v, l, rowsRight(), l[1], l[2])
	// Rows without a cell.
	looksAt(t, one(nil, count), []api.Times{times(7), times(1)}, nil, times(7), times(1))
}

// P22.2: Rows, written out, of two tables: joined, in order, those that pass.
func TestRowsOfTwo(t *testing.T) {
	l, r := rowsLeft(), rowsRight()
	minusNo := times(3, "ta", cell.Int(-1), cell.Int(-1), no)
	minusNone := times(3, "ta", cell.Int(-1), cell.Int(-1), nothing)
	five := times(12, "tb", cell.Int(5), cell.Int(5), yes)
	v := two(on([2]int{1, 0}), []int{0})
	looksAt(t, v, l, r, minusNone, minusNo, five)
	looksAt(t, where(v, col(3)), l, r, five)
	looksAt(t, where(v, op('?', col(3))), l, r, minusNone)
	looksAt(t, where(v, op('!', col(3))), l, r, minusNo)
	looksAt(t, where(v, op('=', col(0), con("ta"))), l, r, minusNone, minusNo)
	looksAt(t, where(v, op('<', col(2), con(cell.Int(5)))), l, r, minusNone, minusNo)
	looksAt(t, where(v, con(no)), l, r)
	looksAt(t, v, l, nil)
	looksAt(t, v, nil, r)
	looksAt(t, v, nil, nil)
	// The tables turned: columns, and cells, are others.
	w := two(on([2]int{0, 1}), []int{0})
	looksAt(t, where(w, col(1)), r, l, times(12, cell.Int(5), yes, "tb", cell.Int(5)))
	looksAt(t, v, r, l)
	// By two columns, and by one twice.
	m := []api.Times{times(1, "ta", cell.Int(1)), times(2, "ta", cell.Int(2)), times(3, "tb", nothing)}
	looksAt(t, two(on([2]int{0, 0}, [2]int{1, 1}), []int{0}), m, m, times(1, "ta", cell.Int(1), "ta", cell.Int(1)), times(4, "ta", cell.Int(2), "ta", cell.Int(2)))
	looksAt(t, two(on([2]int{0, 0}, [2]int{0, 0}), []int{0}), m[2:], m, times(9, "tb", nothing, "tb", nothing))
	// The example of a table joined with itself: each row with each that fits.
	looksAt(t, two(on([2]int{0, 0}), []int{0}), m[:2], m[:2], times(1, "ta", cell.Int(1), "ta", cell.Int(1)), times(2, "ta", cell.Int(1), "ta", cell.Int(2)), times(2, "ta", cell.Int(2), "ta", cell.Int(1)), times(4, "ta", cell.Int(2), "ta", cell.Int(2)))
	// What may not be asked is joined as it stands: by no columns each with each, by seven as by others.
	looksAt(t, two(nil, []int{0}), m[1:2], m, times(2, "ta", cell.Int(2), "ta", cell.Int(1)), times(4, "ta", cell.Int(2), "ta", cell.Int(2)), times(6, "ta", cell.Int(2), "tb", nothing))
	looksAt(t, two(slices.Repeat(on([2]int{0, 0}), 7), []int{0}), m[1:], m, times(2, "ta", cell.Int(2), "ta", cell.Int(1)), times(4, "ta", cell.Int(2), "ta", cell.Int(2)), times(9, "tb", nothing, "tb", nothing))
	looksAt(t, two(on([2]int{0, 2}), []int{0}), m, m)
	// Any name is one.
	v.Right = "\x00"
	looksAt(t, v, l, r, minusNone, minusNo, five)
	v.Left, v.Right = v.Right, "left"
	looksAt(t, v, l, r, minusNone, minusNo, five)
	v.Right = ""
	looksAt(t, v, l, r, l...)
}

// P22.2: what it looks at has nothing to do with what it tells of it.
func TestRowsAskNoColsAndNoAggs(t *testing.T) {
	l, r := rowsLeft(), rowsRight()
	for _, c := range [][]int{nil, {0}, {-1}, {99, 1}, make([]int, 30)} {
		for _, a := range [][]api.Agg{nil, {count}, {sum, {}}, make([]api.Agg, 9)} {
			looksAt(t, where(one(c, a...), op('?', col(1))), l, r, l[1])
			looksAt(t, where(two(on([2]int{1, 0}), c, a...), col(3)), l, r, times(12, "tb", cell.Int(5), cell.Int(5), yes))
		}
	}
}

// P22.2: Take, written out, without Aggs: cells in Cols, in order, as often as all rows that have them.
func TestTakeCells(t *testing.T) {
	l := rowsLeft()
	takes(t, one([]int{0}), l, times(4, "ta"), times(3, "tb"), times(1, "tc"))
	takes(t, one([]int{1}), l, times(1, nothing), times(3, cell.Int(-1)), times(3, cell.Int(5)), times(1, cell.Int(7)))
	takes(t, one([]int{1, 0, 1}), l[:3], times(1, nothing, "ta", nothing), times(3, cell.Int(-1), "ta", cell.Int(-1)), times(2, cell.Int(5), "tb", cell.Int(5)))
	takes(t, one([]int{0, 0}), l[3:], times(1, "tb", "tb"), times(1, "tc", "tc"))
	takes(t, one([]int{0}), nil)
	takes(t, one([]int{2}), l)
	takes(t, one([]int{0, -1}), l)
	takes(t, one(nil), l, times(8))
	takes(t, one([]int{0}, aggs()...), l[:1], times(2, "tb"))
	// Rows of two tables are as long as both.
	takes(t, two(on([2]int{1, 0}), []int{3, 0}), []api.Times{times(12, "tb", cell.Int(5), cell.Int(5), yes), times(3, "ta", cell.Int(-1), cell.Int(-1), yes)}, times(3, yes, "ta"), times(12, yes, "tb"))
}

// P22.2: Take, written out, with Aggs: taken together by Cols, each once.
func TestTakeTogether(t *testing.T) {
	l := rowsLeft()
	takes(t, one([]int{0}, count), l, times(1, "ta", cell.Int(4)), times(1, "tb", cell.Int(3)), times(1, "tc", cell.Int(1)))
	takes(t, one([]int{0}, by(sum, 1), by(least, 1), by(greatest, 1)), l, times(1, "ta", cell.Int(-3), cell.Int(-1), cell.Int(-1)), times(1, "tb", cell.Int(15), cell.Int(5), cell.Int(5)), times(1, "tc", cell.Int(7), cell.Int(7), cell.Int(7)))
	takes(t, one(nil, count, by(sum, 1), least, greatest), l, times(1, cell.Int(8), cell.Int(19), "ta", "tc"))
	takes(t, one([]int{1}, count, least), l[1:3], times(1, nothing, cell.Int(1), "ta"), times(1, cell.Int(-1), cell.Int(3), "ta"))
	takes(t, one([]int{0}, by(sum, 1), by(least, 1)), l[1:2], times(1, "ta", nothing, nothing))
	takes(t, one(nil, count), nil)
	takes(t, one([]int{0}, count), nil)
	takes(t, one([]int{2}, count), l)
	takes(t, two(on([2]int{1, 0}), []int{3}, by(sum, 2)), []api.Times{times(12, "tb", cell.Int(5), cell.Int(5), yes), times(3, "ta", cell.Int(-1), cell.Int(-1), yes)}, times(1, yes, cell.Int(57)))
}

// P22.2: Take is of rows that the view looks at: it asks neither Where nor On, nor which tables.
func TestTakeAsksNoWhere(t *testing.T) {
	l := rowsLeft()[:3]
	for _, w := range []api.Term{{}, all(), con(no), con(nothing), op('?', col(1)), long(1 << 16)} {
		for _, names := range [][2]string{{"", ""}, {"a", ""}, {"", "a"}, {"a", "b"}} {
			for _, o := range [][][2]int{nil, on([2]int{0, 0}), on([2]int{-1, 7}), make([][2]int, 9)} {
				v := api.View{Left: names[0], Right: names[1], On: o, Where: w, Cols: []int{0}}
				takes(t, v, l, times(4, "ta"), times(2, "tb"))
				v.Aggs = aggs(by(sum, 1))
				takes(t, v, l, times(1, "ta", cell.Int(-3)), times(1, "tb", cell.Int(10)))
			}
		}
	}
}

// many are rows of a number each, and what it is beyond five hundreds.
func many(n int) []api.Times {
	var l []api.Times
	for i := range n {
		l = append(l, times(i%3+1, cell.Int(i*7919%n), cell.Int(i%500)))
	}
	return l
}

// P22.2: ErrLarge of more than 1000 unlike rows, of cells and of what is taken together; however many the view looks at.
func TestTakeLarge(t *testing.T) {
	for _, n := range []int{999, 1000, 1001, 1002, 3000} {
		l := many(n)
		for _, v := range []api.View{one([]int{0}), one([]int{1, 0}), one([]int{0}, count), one([]int{0, 1}, by(sum, 1), least)} {
			if n > 1000 {
				takesNone(t, v, l, api.ErrLarge)
				continue
			}
			got, err := Take(v, l)
			if want, _ := takenOf(v, l); err != api.OK || len(got) != n || !same(got, want) {
				t.Errorf("of %d rows %v has %d, %d", n, v, len(got), err)
			}
		}
		for _, v := range []api.View{one([]int{1}), one([]int{1, 1}), one([]int{1}, count, by(greatest, 0)), one(nil, count), one(nil, by(sum, 0)), one(nil)} {
			want, _ := takenOf(v, l)
			takes(t, v, l, want...)
			answers(t, v, l, nil, want...)
		}
		// Of those that pass 1000 are left.
		answers(t, where(one([]int{0}), op('<', col(0), con(cell.Int(1000)))), l, nil, sieve.Project(sieve.Filter(l, op('<', col(0), con(cell.Int(1000)))), []int{0})...)
	}
	// How often rows are there is all one; those alike are one.
	takes(t, one([]int{0}), []api.Times{times(1<<20, "ta"), times(1<<20, "tb")}, times(1<<20, "ta"), times(1<<20, "tb"))
	takes(t, one([]int{0}), slices.Repeat([]api.Times{times(1, "ta")}, 5000), times(5000, "ta"))
	takes(t, one([]int{0}, count), slices.Repeat([]api.Times{times(1, "ta")}, 5000), times(1, "ta", cell.Int(5000)))
}

// P22.2: ErrLarge of two tables: just 1000 rows, and one more.
func TestAnswerLarge(t *testing.T) {
	var l, r []api.Times
	for i := range 143 {
		l = append(l, times(1, "ta", cell.Int(i)))
	}
	for i := range 8 {
		r = append(r, times(2, "ta", cell.Int(i)))
	}
	for _, v := range []api.View{two(on([2]int{0, 0}), []int{1, 3}), two(on([2]int{0, 0}), []int{3, 1}, count)} {
		want, _ := takenOf(v, joined(l[:125], r, v.On))
		if len(want) != 1000 {
			t.Fatalf("%d rows", len(want))
		}
		answers(t, v, l[:125], r, want...)
		// 1001 are 143 by 7.
		if got, err := Answer(v, l, r[:7]); err != api.ErrLarge || len(got) > 0 {
			t.Errorf("%d rows, %d", len(got), err)
		}
		want, _ = takenOf(v, joined(l[1:], r[:7], v.On))
		answers(t, v, l[1:], r[:7], want...)
	}
	answers(t, two(on([2]int{0, 0}), []int{0}), l, r, times(143*16, "ta"))
}

// P22.2: ErrOver of each way, and each group, ahead of ErrLarge; not of what doesn't pass, and not without Aggs.
func TestTakeOver(t *testing.T) {
	most, fewest := cell.Int(math.MaxInt), cell.Int(math.MinInt)
	l := []api.Times{times(1, "ta", most), times(1, "tb", cell.Int(1)), times(1, "tc", fewest)}
	over := append(slices.Clone(l), times(1, "tb", most))
	takes(t, one([]int{0}, by(sum, 1)), l, times(1, "ta", most), times(1, "tb", cell.Int(1)), times(1, "tc", fewest))
	takes(t, one(nil, by(sum, 1)), l, times(1, cell.Int(0)))
	takesNone(t, one([]int{0}, by(sum, 1)), over, api.ErrOver)
	takesNone(t, one(nil, by(sum, 1)), l[:2], api.ErrOver)
	takesNone(t, one([]int{0}, count, least, greatest, by(sum, 1)), over, api.ErrOver)
	takesNone(t, one([]int{0}, by(sum, 1), count), []api.Times{times(2, "tz", fewest)}, api.ErrOver)
	takes(t, one([]int{0}, count, by(greatest, 1)), over, times(1, "ta", cell.Int(1), most), times(1, "tb", cell.Int(2), most), times(1, "tc", cell.Int(1), fewest))
	takes(t, one([]int{0}), over, times(1, "ta"), times(2, "tb"), times(1, "tc"))
	answers(t, where(one([]int{0}, by(sum, 1)), op('!', op('=', col(0), con("tb")))), over, nil, times(1, "ta", most), times(1, "tc", fewest))
	// Ahead of ErrLarge, wherever the sum stands.
	for _, n := range []int{1000, 1001, 2000} {
		rows := many(n)
		for _, at := range []int{-1, 0, n / 2, n - 1, n} {
			both := append(slices.Clone(rows), times(2, cell.Int(at), most))
			takesNone(t, one([]int{0}, by(sum, 1)), both, api.ErrOver)
			if unlike := len(counted(sieve.Project(both, []int{0}))); unlike > 1000 {
				takesNone(t, one([]int{0}, by(least, 1)), both, api.ErrLarge)
			}
		}
	}
}

// P22.2: Answer, written out: of the tables, what the view tells of what it looks at.
func TestAnswerWrittenOut(t *testing.T) {
	l, r := rowsLeft(), rowsRight()
	answers(t, one([]int{0}), l, nil, times(4, "ta"), times(3, "tb"), times(1, "tc"))
	answers(t, where(one([]int{0}), op('!', op('?', col(1)))), l, nil, times(3, "ta"), times(3, "tb"), times(1, "tc"))
	answers(t, where(one(nil, count), op('<', col(1), con(cell.Int(6)))), l, nil, times(1, cell.Int(6)))
	answers(t, where(one(nil, count), con(no)), l, nil)
	answers(t, one([]int{0}), nil, r)
	// What passes is asked of cells that the view doesn't tell.
	answers(t, where(one([]int{1}), op('=', col(0), con("ta"))), l, r, times(1, nothing), times(3, cell.Int(-1)))
	answers(t, two(on([2]int{1, 0}), []int{3}), l, r, times(3, nothing), times(3, no), times(12, yes))
	answers(t, where(two(on([2]int{1, 0}), []int{0}, count, by(sum, 2)), op('!', op('?', col(3)))), l, r, times(1, "ta", cell.Int(3), cell.Int(-3)), times(1, "tb", cell.Int(12), cell.Int(60)))
	answers(t, two(on([2]int{1, 0}), []int{0}), l, nil)
	// DOC's third example: sums, ahead of what goes, and behind it.
	sums := one(nil, by(sum, 0))
	answers(t, sums, []api.Times{times(5, cell.Int(2))}, nil, times(1, cell.Int(10)))
	answers(t, sums, []api.Times{times(1, cell.Int(2)), times(1, cell.Int(3))}, nil, times(1, cell.Int(5)))
}

// conditions are some that rows of these tests pass, or don't.
func conditions() []condition {
	return []condition{
		{all(), func([]string) bool { return true }},
		{con(no), func([]string) bool { return false }},
		{op('?', col(1)), func(row []string) bool { return cellAt(row, 1) == nothing }},
		{op('=', col(0), con("ta")), func(row []string) bool { return cellAt(row, 0) == "ta" }},
		{op('<', col(1), con(cell.Int(5))), func(row []string) bool { return cellAt(row, 1) != nothing && cellAt(row, 1) < cell.Int(5) }},
		{op('!', op('=', col(0), col(2))), func(row []string) bool {
			return cellAt(row, 0) != nothing && cellAt(row, 2) != nothing && cellAt(row, 0) != cellAt(row, 2)
		}},
		{op('|', op('?', col(3)), op('<', col(1), col(3))), func(row []string) bool {
			return cellAt(row, 3) == nothing || cellAt(row, 1) != nothing && cellAt(row, 1) < cellAt(row, 3)
		}},
	}
}

// P22.2: all short tables, in any order, with what is there twice, each alone and with each: against the chapter's words.
func TestOfShortTables(t *testing.T) {
	rows := []api.Times{times(1, "ta", cell.Int(5)), times(2, "ta", nothing), times(3, "tb", cell.Int(-1)), times(1, nothing, cell.Int(math.MaxInt)), times(2, "tb", cell.Int(5))}
	views := []api.View{one([]int{0}), one([]int{1, 0}), one([]int{0}, count, by(sum, 1)), one(nil, by(greatest, 1), least), one([]int{1}, by(sum, 1))}
	views = append(views, two(on([2]int{0, 0}), []int{0, 3}), two(on([2]int{1, 1}), []int{3}, count, by(sum, 1)), two(on([2]int{0, 0}, [2]int{1, 1}), []int{2}, by(least, 3)), two(on([2]int{1, 1}), nil, by(sum, 3), by(greatest, 2)))
	lists := listsOf(rows, 2)
	told := map[api.Errno]int{}
	for _, left := range append(lists, rows, slices.Concat(rows[2:], rows[:4])) {
		for _, right := range append(lists, rows) {
			for _, v := range views {
				for _, c := range conditions() {
					v.Where = c.t
					seen := lookedAt(v, c, left, right)
					looksAt(t, v, left, right, seen...)
					want, err := takenOf(v, seen)
					told[err]++
					if got, e := Take(v, seen); e != err || !same(got, want) {
						t.Errorf("Take(%v, %v) = %v, %d", v, seen, got, e)
					}
					if got, e := Answer(v, left, right); e != err || !same(got, want) {
						t.Errorf("Answer(%v, %v, %v) = %v, %d", v, left, right, got, e)
					}
				}
			}
		}
	}
	if told[api.OK] < 1000 || told[api.ErrOver] < 100 {
		t.Errorf("just %v", told)
	}
}

// P22.2: against the layers that it stands on, of longer tables.
func TestAnswerOfLongerTables(t *testing.T) {
	var l, r []api.Times
	for i := range 200 {
		l = append(l, times(i%5+1, cell.Int(i*37%11), cell.Text(strconv.Itoa(i*i%7)), cell.Int(i-100)))
		r = append(r, times(i%3+1, cell.Text(strconv.Itoa(i%7)), cell.Int(i*i%11)))
	}
	o, w := on([2]int{0, 1}), op('<', col(4), col(2))
	seen := sieve.Filter(pair.Join(l, r, o), w)
	if len(seen) < 100 {
		t.Fatalf("just %d", len(seen))
	}
	v := where(two(o, []int{4, 1}), w)
	looksAt(t, v, l, r, seen...)
	answers(t, v, l, r, sieve.Project(seen, v.Cols)...)
	v.Aggs = aggs(by(sum, 2), count, by(least, 2), by(greatest, 0))
	want, _ := fold.Groups(seen, v.Cols, v.Aggs)
	answers(t, v, l, r, want...)
	// In whatever order the tables' rows stand, the view's are the same.
	slices.Reverse(l)
	answers(t, v, weigh.Of(l), r, want...)
	answers(t, v, l, weigh.Of(r), want...)
}

// cellsOf are a few cells that fit in a column.
func cellsOf(c api.Col) []string {
	var l []string
	switch c.Kind {
	case 'b':
		l = []string{no, yes}
	case 'i':
		l = []string{cell.Int(-3), cell.Int(1 << 40)}
	case 't':
		l = []string{"t", "ta", cell.Text("0123456789abcdef")}
	}
	if c.Null {
		l = append(l, nothing)
	}
	return l
}

// rowsUnder are all rows of such cells.
func rowsUnder(l []api.Col) []api.Times {
	rows := []api.Times{times(1)}
	for _, c := range l {
		var longer []api.Times
		for i, x := range rows {
			for j, s := range cellsOf(c) {
				longer = append(longer, times(1+(i+j)%3, append(slices.Clone(x.Row), s)...))
			}
		}
		rows = longer
	}
	return rows
}

// P22.3: what a view that may be has of rows that stand under its tables' columns stands under its own, in order, each once.
func TestItFits(t *testing.T) {
	tables := [][2][]api.Col{{cols(text, numNull), cols(num, textNull)}, {cols(some), cols(truth, numNull)}, {cols(textNull, some, num), cols(some)}, {cols(numNull), cols(num)}}
	ons := listsOf(on([2]int{0, 0}, [2]int{0, 1}, [2]int{1, 0}), 2)
	aggss := listsOf(aggs(count, sum, by(sum, 1), by(sum, 2), least, by(least, 1), by(greatest, 2), by(greatest, 3)), 2)
	views, rows, none := 0, 0, 0
	for _, both := range tables {
		left, right := rowsUnder(both[0]), rowsUnder(both[1])
		for _, o := range ons {
			for _, w := range []api.Term{all(), op('?', col(1)), op('!', op('?', col(0)))} {
				for _, c := range [][]int{nil, {0}, {1}, {2, 1}, {3, 0}} {
					for _, a := range aggss {
						for _, name := range []string{"", "r"} {
							v := api.View{Left: "l", Right: name, On: o, Where: w, Cols: c, Aggs: a}
							columns, err := Columns(v, both[0], both[1])
							if err != api.OK {
								continue
							}
							views++
							// Rows of which some alone are there have other groups.
							for _, l := range [][]api.Times{left, left[:1], left[len(left)-1:], nil} {
								got, err := Answer(v, l, right)
								if err != api.OK {
									t.Fatalf("%d of %v", err, v)
								}
								rows += len(got)
								none += fit(t, v, columns, got)
							}
						}
					}
				}
			}
		}
	}
	if views < 1000 || rows < 5000 || none < 1000 {
		t.Errorf("just %d views, %d rows, %d of nothing", views, rows, none)
	}
}

// fit tells of each row whether it stands under columns, and gives how many cells are nothing.
func fit(t *testing.T, v api.View, columns []api.Col, rows []api.Times) int {
	t.Helper()
	none := 0
	if !weigh.Right(rows) || !weigh.Whole(rows) {
		t.Errorf("the rows of %v aren't in order: %v", v, rows)
	}
	for _, x := range rows {
		if err := shape.Row(columns, x.Row); err != api.OK || x.N < 1 || len(v.Aggs) > 0 && x.N != 1 {
			t.Errorf("of %v %q doesn't stand under %v: %d", v, x.Row, columns, err)
		}
		for _, c := range x.Row {
			if c == nothing {
				none++
			}
		}
	}
	return none
}

// P22.3: each column that may have nothing, by its way, has it of some rows; how many there are is never nothing.
func TestItFitsJustSo(t *testing.T) {
	l := []api.Times{times(3, "ta", nothing, nothing, nothing)}
	columns := cols(text, numNull, some, textNull)
	for c := 1; c < 4; c++ {
		for _, a := range aggs(sum, least, greatest) {
			v := one([]int{0}, count, by(a, c))
			if a == sum && c > 1 {
				refuses(t, v, columns, nil, api.ErrKind)
				continue
			}
			stands(t, v, columns, nil, text, num, api.Col{Kind: columns[c].Kind, Null: true})
			answers(t, v, l, nil, times(1, "ta", cell.Int(3), nothing))
		}
	}
}

// given are a view, columns, and two tables' rows, with spare room in, and behind.
func given() (api.View, []api.Col, []api.Times, []api.Times) {
	l := []api.Times{times(2, "tb", cell.Int(5), "spare"), times(1, "ta", cell.Int(-7), "spare"), times(3, "tb", nothing, "spare"), times(1, "tc", cell.Int(1), "spare"), times(9, "spare"), times(8, "spare")}
	for i := range 4 {
		l[i].Row = l[i].Row[:2]
	}
	kids := []api.Term{col(0), con("tz"), col(77)}
	v := api.View{Left: "l", Right: "r", On: on([2]int{0, 0}, [2]int{7, 7})[:1], Where: op('<', kids[:2]...), Cols: []int{0, 1, 77}[:2], Aggs: aggs(count, by(sum, 1), by(least, 3), api.Agg{Way: 9})[:3]}
	return v, cols(text, numNull, truth)[:2], l[:4], deep(l[:4])
}

// views are the given one, and others that have its lists.
func views(v api.View) []api.View {
	alone, cells, both, whole := v, v, v, v
	alone.Right, alone.On, alone.Aggs = "", nil, aggs(count, by(sum, 1))
	cells.Right, cells.On, cells.Aggs = "", nil, nil
	both.Aggs = nil
	whole.Right, whole.On, whole.Aggs, whole.Where = "", nil, nil, all()
	return []api.View{v, alone, cells, both, whole}
}

// told is all that the calls answer of them.
func told(v api.View, c []api.Col, l, r []api.Times) ([][]api.Times, [][]api.Col) {
	var rows [][]api.Times
	columns := [][]api.Col{Joined(c, c), Joined(c, nil), Joined(nil, c)}
	for _, w := range views(v) {
		under, _ := Columns(w, c, c)
		taken, _ := Take(w, l)
		answer, _ := Answer(w, l, r)
		columns, rows = append(columns, under), append(rows, Rows(w, l, r), taken, answer)
	}
	return rows, columns
}

// asIs is a text that has all of what is handed in, its spare room too.
func asIs(v api.View, c []api.Col, l, r []api.Times) string {
	var b strings.Builder
	b.WriteString(fmt.Sprintf("%q %q %v %v %v %v %v; ", v.Left, v.Right, v.On[:cap(v.On)], v.Where.Kids[:cap(v.Where.Kids)], v.Cols[:cap(v.Cols)], v.Aggs[:cap(v.Aggs)], c[:cap(c)]))
	for _, x := range append(l[:cap(l):cap(l)], r[:cap(r)]...) {
		b.WriteString(fmt.Sprintf("%d %q %d; ", x.N, x.Row[:cap(x.Row)], len(x.Row)))
	}
	return b.String()
}

// changeAll changes each row of a list, its spare room too.
func changeAll(l []api.Times) {
	l = l[:cap(l)]
	for i := range l {
		cells := l[i].Row[:cap(l[i].Row)]
		for j := range cells {
			cells[j] = "changed"
		}
		l[i] = times(-99, "changed")
	}
}

// changeCols changes each column of a list, its spare room too.
func changeCols(l []api.Col) {
	l = l[:cap(l)]
	for i := range l {
		l[i] = api.Col{Kind: 99}
	}
}

// What is handed in isn't changed, its spare room neither, and answers are new memory.
func TestNothingIsChangedOrShared(t *testing.T) {
	v, c, l, r := given()
	was := asIs(v, c, l, r)
	wantRows, wantCols := told(given())
	if slices.ContainsFunc(wantRows, func(l []api.Times) bool { return len(l) == 0 }) || slices.ContainsFunc(wantCols, func(l []api.Col) bool { return len(l) == 0 }) {
		t.Fatalf("some are empty, so nothing can be shared: %v, %v", wantRows, wantCols)
	}
	for range 2 {
		rows, columns := told(v, c, l, r)
		if !slices.EqualFunc(rows, wantRows, same) || !slices.EqualFunc(columns, wantCols, slices.Equal[[]api.Col]) {
			t.Fatalf("%v, %v", rows, columns)
		}
		for i := range rows {
			changeAll(rows[i])
		}
		for i := range columns {
			changeCols(columns[i])
		}
		if asIs(v, c, l, r) != was {
			t.Fatalf("%s, not %s", asIs(v, c, l, r), was)
		}
	}
	rows, columns := told(v, c, l, r)
	changeAll(l)
	changeAll(r)
	changeCols(c)
	v.On[0], v.Cols[0], v.Aggs[0], v.Where.Kids[0] = [2]int{9, 9}, 9, api.Agg{}, api.Term{}
	if !slices.EqualFunc(rows, wantRows, same) || !slices.EqualFunc(columns, wantCols, slices.Equal[[]api.Col]) {
		t.Errorf("answers hang on what was handed in: %v, %v", rows, columns)
	}
}

// No two rows of an answer share cells, their spare room neither.
func TestRowsOfAnAnswerShareNothing(t *testing.T) {
	rows, _ := told(given())
	for i, l := range rows {
		for changed := range l {
			was := deep(l)
			changeAll(l[changed : changed+1 : changed+1])
			was[changed] = l[changed]
			if !same(l, was) {
				t.Errorf("row %d of answer %d changed others: %v", changed, i, l)
			}
		}
	}
}

// Nothing is kept from call to call: what was asked ahead is all one.
func TestNothingIsKept(t *testing.T) {
	wantRows, wantCols := told(given())
	for _, v := range []api.View{{}, one([]int{0}), one([]int{1}, by(sum, 1)), two(on([2]int{0, 0}), []int{3}), where(one([]int{9}), long(40))} {
		for _, l := range [][]api.Times{nil, rowsLeft(), many(1100)} {
			Columns(v, cols(text, num), cols(text))
			Rows(v, l, rowsLeft())
			Take(v, l)
			Answer(v, l, rowsLeft())
			rows, columns := told(given())
			if !slices.EqualFunc(rows, wantRows, same) || !slices.EqualFunc(columns, wantCols, slices.Equal[[]api.Col]) {
				t.Fatalf("behind %v answers are others", v)
			}
		}
	}
}

// Any number of goroutines may call at once, of the same rows too.
func TestAtOnce(t *testing.T) {
	v, c, l, r := given()
	wantRows, wantCols := told(given())
	var each sync.WaitGroup
	for range 8 {
		each.Go(func() {
			for range 100 {
				rows, columns := told(v, c, l, r)
				if !slices.EqualFunc(rows, wantRows, same) || !slices.EqualFunc(columns, wantCols, slices.Equal[[]api.Col]) {
					t.Error("calls at once aren't as one alone")
				}
			}
		})
	}
	each.Wait()
}

// Very much of all: a call ends, and tells what is first.
func TestVeryMuch(t *testing.T) {
	const much = 1 << 16
	wide := slices.Repeat(cols(num), much)
	if got := Joined(wide, wide); len(got) != 2*much {
		t.Errorf("%d columns", len(got))
	}
	refuses(t, two(slices.Repeat(on([2]int{much - 1, 0}), much), []int{0}), wide, wide, api.ErrArg)
	refuses(t, two(append(slices.Repeat(on([2]int{0, 0}), much), [2]int{0, 1}), []int{0}), cols(num), cols(num, text), api.ErrKind)
	refuses(t, one(make([]int, much)), cols(num), nil, api.ErrArg)
	refuses(t, one(append(make([]int, much), 1), sum), cols(text), nil, api.ErrArg)
	refuses(t, one(make([]int, much), sum), cols(text), nil, api.ErrKind)
	refuses(t, one(nil, append(make([]api.Agg, 0, much), append(slices.Repeat(aggs(count), much), sum)...)...), cols(text), nil, api.ErrKind)
	stands(t, two(on([2]int{much - 1, much - 1}), []int{2*much - 1}, by(sum, 2*much-1)), wide, wide, num, numNull)
	refuses(t, two(on([2]int{much - 1, much - 1}), []int{2 * much}), wide, wide, api.ErrArg)
	l := many(1 << 17)
	if got := Rows(one(nil), l, nil); !same(got, l) {
		t.Errorf("%d rows", len(got))
	}
	answers(t, one(nil, count), l, nil, times(1, cell.Int(1<<18-1)))
	takesNone(t, one([]int{0}), l, api.ErrLarge)
}

// Wrong views, columns and rows: a call ends, whatever it is given.
func TestWhateverIsGiven(t *testing.T) {
	odd := []api.Times{{}, times(0, "ta"), times(-1, "tb", cell.Int(3)), times(math.MaxInt, "ta", cell.Int(math.MaxInt)), times(math.MinInt, "x", "x"), times(1, strings.Repeat("x", 1<<12)), times(1, make([]string, 100)...)}
	oddViews := []api.View{{}, {Right: "r"}, {On: make([][2]int, 9)}, {Right: "r", On: make([][2]int, 9)}, {Right: "r", On: on([2]int{math.MinInt, math.MaxInt})}}
	for _, v := range slices.Clone(oddViews) {
		for _, w := range []api.Term{all(), op('=', col(math.MinInt), col(math.MaxInt)), op('&'), long(1 << 10)} {
			v.Where = w
			for _, c := range [][]int{nil, {math.MinInt}, {math.MaxInt}, {0, 1}, make([]int, 50)} {
				v.Cols = c
				for _, a := range [][]api.Agg{nil, {{}}, {{Way: math.MinInt, Col: math.MinInt}}, {{Way: math.MaxInt, Col: math.MaxInt}}, make([]api.Agg, 50), {by(sum, math.MaxInt), by(least, math.MinInt), count}} {
					v.Aggs = a
					oddViews = append(oddViews, v)
				}
			}
		}
	}
	for _, v := range oddViews {
		for _, l := range [][]api.Times{nil, odd, rowsLeft()} {
			for _, r := range [][]api.Times{nil, odd, rowsRight()} {
				rows := Rows(v, l, r)
				got, err := Take(v, rows)
				again, e := Answer(v, l, r)
				if err != e || !same(got, again) || err != api.OK && len(got) > 0 {
					t.Errorf("Answer(%v, %v, %v) = %v, %d, but Take %v, %d", v, l, r, again, e, got, err)
				}
			}
		}
		for _, c := range [][]api.Col{nil, cols(text, num), make([]api.Col, 99), cols(api.Col{Kind: 255, Null: true})} {
			if got, err := Columns(v, c, c); err != api.OK && len(got) > 0 {
				t.Errorf("Columns(%v) = %v, %d", v, got, err)
			}
			if l := faults(v, c, c); len(l) > 0 {
				refuses(t, v, c, c, l[0])
			}
		}
	}
}
