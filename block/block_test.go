package block

import (
	"fmt"
	"math"
	"slices"
	"strconv"
	"strings"
	"sync"
	"testing"

	"distiller/api"
	"distiller/cell"
	"distiller/column"
	"distiller/shelf"
)

// at is a row of these cells, so often.
func at(n int, row ...string) api.Times {
	return api.Times{Row: row, N: n}
}

// colsOf are columns of these kinds; a kind written large may have nothing.
func colsOf(kinds string) []api.Col {
	var cols []api.Col
	for _, k := range []byte(kinds) {
		if k >= 'A' && k <= 'Z' {
			cols = append(cols, api.Col{Kind: k + 'a' - 'A', Null: true})
		} else {
			cols = append(cols, api.Col{Kind: k})
		}
	}
	return cols
}

// listsOf are all lists of up to most of these.
func listsOf[T any](these []T, most int) [][]T {
	l := [][]T{nil}
	longest := l
	for range most {
		var next [][]T
		for _, before := range longest {
			for _, x := range these {
				next = append(next, append(slices.Clip(before), x))
			}
		}
		l = append(l, next...)
		longest = next
	}
	return l
}

// textsOf are all texts of up to most of these bytes.
func textsOf(bytes string, most int) []string {
	var l []string
	for _, s := range listsOf([]byte(bytes), most) {
		l = append(l, string(s))
	}
	return l
}

// wantBlock is what Of is to be: each column for itself, and how often, by the layers that print these.
func wantBlock(l []api.Times, cols int) api.Block {
	var columns []string
	for c := 0; c < cols; c++ {
		var cells []string
		for _, x := range l {
			cells = append(cells, x.Row[c])
		}
		columns = append(columns, column.Print(cells))
	}
	var many []int
	for _, x := range l {
		many = append(many, x.N)
	}
	return api.Block{Rows: len(l), Cols: columns, N: shelf.Print(many)}
}

// ahead tells whether a row stands ahead of another one: by the first cell that is unlike, else the shorter one.
func ahead(a, b []string) bool {
	for i := 0; i < len(a) && i < len(b); i++ {
		if a[i] != b[i] {
			return a[i] < b[i]
		}
	}
	return len(a) < len(b)
}

// fits tells whether a cell may be, and is of the column's kind, or nothing, where that may be.
func fits(c api.Col, s string) bool {
	switch {
	case s == "":
		return c.Null
	case s[0] != c.Kind:
		return false
	case c.Kind == 'b':
		return s == "b\x00" || s == "b\x01"
	case c.Kind == 'i':
		return len(s) == 9
	}
	return c.Kind == 't' && len(s) <= 17
}

// may tells whether rows may be a block's.
func may(l []api.Times, cols []api.Col) bool {
	if len(l) < 1 || len(l) > 4096 {
		return false
	}
	for i, x := range l {
		if x.N < 1 || len(x.Row) != len(cols) || i > 0 && !ahead(l[i-1].Row, x.Row) {
			return false
		}
		for c, s := range x.Row {
			if !fits(cols[c], s) {
				return false
			}
		}
	}
	return true
}

// same tells whether two lists have the same rows, as often, as they stand.
func same(a, b []api.Times) bool {
	return slices.EqualFunc(a, b, func(x, y api.Times) bool { return x.N == y.N && slices.Equal(x.Row, y.Row) })
}

// alike tells whether two blocks have the same bytes.
func alike(a, b api.Block) bool {
	return a.Rows == b.Rows && a.N == b.N && slices.Equal(a.Cols, b.Cols)
}

// deep is the list in memory of its own.
func deep(l []api.Times) []api.Times {
	out := make([]api.Times, len(l))
	for i, x := range l {
		out[i] = api.Times{Row: slices.Clone(x.Row), N: x.N}
	}
	return out
}

// fixed is a block with one part changed, in memory of its own.
func fixed(b api.Block, change func(b *api.Block)) api.Block {
	b.Cols = slices.Clone(b.Cols)
	change(&b)
	return b
}

// shown is what is handed in and answered, in Go's form, the beginning of it.
func shown(these ...any) string {
	s := fmt.Sprintf("%#v", these)
	return s[:min(len(s), 900)]
}

// isRefused fails, unless b is no block.
func isRefused(t *testing.T, b api.Block, cols []api.Col) {
	t.Helper()
	if l, e := Rows(b, cols); e != api.ErrForm || len(l) != 0 {
		t.Fatalf("not refused: %s", shown(b, cols, l, e))
	}
}

// isRead fails, unless b is just these rows' block.
func isRead(t *testing.T, b api.Block, cols []api.Col, want []api.Times) {
	t.Helper()
	if l, e := Rows(b, cols); e != api.OK || !same(l, want) {
		t.Fatalf("not read, or not as it is: %s", shown(b, cols, l, e, want))
	}
}

// isSound fails, if b is read, and isn't just the block of rows that may be. It tells whether it is read.
func isSound(t *testing.T, b api.Block, cols []api.Col) bool {
	t.Helper()
	l, e := Rows(b, cols)
	switch e {
	case api.OK:
		if !may(l, cols) || !alike(wantBlock(l, len(cols)), b) {
			t.Fatalf("read, but not its rows' block: %s", shown(b, cols, l))
		}
	case api.ErrForm:
		if len(l) != 0 {
			t.Fatalf("rows beside an error: %s", shown(b, cols, l))
		}
	default:
		t.Fatalf("another error: %s", shown(b, cols, e))
	}
	return e == api.OK
}

// sample is rows that may be a block's, and the columns that they are of.
type sample struct {
	cols []api.Col
	l    []api.Times
}

// numbered are so many rows of a number, nothing or a short text, and yes or no.
func numbered(many int) []api.Times {
	l := make([]api.Times, many)
	for i := range l {
		row := []string{cell.Int(i*3 - 100), "", cell.Bool(i%5 < 2)}
		if i%3 != 0 {
			row[1] = cell.Text(strconv.Itoa(i % 7))
		}
		l[i] = api.Times{Row: row, N: i%4 + 1}
	}
	return l
}

// nested are so many rows that stand by all of their columns: each but the last one is often the same.
func nested(many int) []api.Times {
	l := make([]api.Times, many)
	for i := range l {
		l[i] = at(1+i*i, cell.Bool(i >= many/2), cell.Text(strings.Repeat("z", i/8%16)), cell.Int(i))
	}
	slices.SortFunc(l, func(a, b api.Times) int {
		if ahead(a.Row, b.Row) {
			return -1
		}
		return 1
	})
	return l
}

// samples are of each kind of column, of none to eight of them, and of one row up to just 4096.
func samples() []sample {
	a, z := cell.Text("a"), cell.Text("z")
	low, high := cell.Int(math.MinInt), cell.Int(math.MaxInt)
	no, yes := cell.Bool(false), cell.Bool(true)
	l := []sample{
		{nil, []api.Times{at(1)}}, {nil, []api.Times{at(math.MaxInt)}},
		{colsOf("b"), []api.Times{at(1, no)}}, {colsOf("b"), []api.Times{at(1, no), at(2, yes)}}, {colsOf("B"), []api.Times{at(5, ""), at(1, no), at(2, yes)}},
		{colsOf("i"), []api.Times{at(1, low), at(1, cell.Int(-1)), at(1, cell.Int(0)), at(1, cell.Int(300)), at(1, high)}}, {colsOf("I"), []api.Times{at(7, ""), at(1, high)}},
		{colsOf("t"), []api.Times{at(1, "t"), at(1, "t\x00"), at(3, a), at(1, cell.Text("aa")), at(1, z)}},
		{colsOf("t"), []api.Times{at(1, cell.Text("0123456789abcdef")), at(1, cell.Text(strings.Repeat("\xff", 16)))}}, {colsOf("T"), []api.Times{at(1, "")}},
		{colsOf("tt"), []api.Times{at(1, a, a), at(1, a, z), at(1, z, a), at(1, z, z)}}, {colsOf("TI"), []api.Times{at(1, "", ""), at(2, "", low), at(3, a, ""), at(4, a, high)}},
		{colsOf("ITB"), []api.Times{at(1, "", "", ""), at(1, "", "", yes), at(1, low, "", ""), at(1, low, a, no)}}, {colsOf("bitBIT"), []api.Times{at(9, no, low, a, no, low, a), at(9, no, low, a, yes, "", z), at(1, yes, low, "t", "", "", "")}},
		{colsOf("tttttttt"), []api.Times{at(1, a, a, a, a, a, a, a, a), at(1, a, a, a, a, a, a, a, z)}},
	}
	for _, many := range []int{1, 2, 7, 127, 128, 129, 255, 256, 257, 4095, 4096} {
		l = append(l, sample{colsOf("iTb"), numbered(many)}, sample{colsOf("bti"), nested(many)})
	}
	return l
}

// P12.1: written out, each byte: how many rows, which cells are nothing, the way, and the cells by it; the least N, the bytes of each, and each.
func TestOfWrittenOut(t *testing.T) {
	one, two := cell.Int(1), cell.Int(2)
	for _, x := range []struct {
		l    []api.Times
		cols int
		want api.Block
	}{
		{nil, 0, api.Block{N: "\x00\x00"}}, {[]api.Times{}, 2, api.Block{Cols: []string{"\x00\x00", "\x00\x00"}, N: "\x00\x00"}},
		{[]api.Times{at(1)}, 0, api.Block{Rows: 1, N: "\x02\x00"}}, {[]api.Times{at(1, "ta")}, 0, api.Block{Rows: 1, N: "\x02\x00"}},
		{[]api.Times{at(1, "ta")}, 1, api.Block{Rows: 1, Cols: []string{"\x01\x00\x02ta\x01"}, N: "\x02\x00"}}, {[]api.Times{at(3, "")}, 1, api.Block{Rows: 1, Cols: []string{"\x00\x01\x00"}, N: "\x06\x00"}},
		{[]api.Times{at(2, one, ""), at(1, two, "ta")}, 2, api.Block{Rows: 2, Cols: []string{"\x02\x02\x02\x02", "\x00\x01\x01\x00\x02ta\x01"}, N: "\x02\x01\x01\x00"}},
		{[]api.Times{at(2, one, ""), at(1, two, "ta")}, 1, api.Block{Rows: 2, Cols: []string{"\x02\x02\x02\x02"}, N: "\x02\x01\x01\x00"}},
		{[]api.Times{at(1, two, "ta"), at(2, one, "")}, 2, api.Block{Rows: 2, Cols: []string{"\x02\x02\x04\x01", "\x01\x01\x00\x02ta\x01"}, N: "\x02\x01\x00\x01"}},
		{[]api.Times{at(1, "ta"), at(1, "ta"), at(1, "ta")}, 1, api.Block{Rows: 3, Cols: []string{"\x03\x00\x02ta\x03"}, N: "\x02\x00"}},
		{[]api.Times{at(300, "b\x00"), at(1, "b\x01")}, 1, api.Block{Rows: 2, Cols: []string{"\x02\x00\x02b\x00\x01\x02b\x01\x01"}, N: "\x02\x02\x2b\x01\x00\x00"}},
		{[]api.Times{at(0, "ta"), at(-1, "")}, 1, api.Block{Rows: 2, Cols: []string{"\x01\x01\x00\x02ta\x01"}, N: "\x01\x01\x01\x00"}},
		{[]api.Times{at(math.MaxInt, "t"), at(math.MinInt, "t")}, 1, api.Block{Rows: 2, Cols: []string{"\x02\x00\x01t\x02"}, N: "\xff\xff\xff\xff\xff\xff\xff\xff\xff\x01\x08\xff\xff\xff\xff\xff\xff\xff\xff\x00\x00\x00\x00\x00\x00\x00\x00"}},
	} {
		if got := Of(x.l, x.cols); !alike(got, x.want) {
			t.Errorf("Of: %s", shown(x.l, x.cols, got, x.want))
		}
	}
}

// P12.1: all short lists, those in no order too, by each number of their first cells.
func TestOfShortLists(t *testing.T) {
	few := []api.Times{at(1, "ta", "", cell.Int(5)), at(-1, "tb", "tb", "tb", "tb"), at(0, cell.Int(7), cell.Bool(true), ""), at(math.MaxInt, "", "x", "t\xff", "", ""), at(300, "ta", "tb", "\x00")}
	for _, l := range listsOf(few, 5) {
		for cols := range 4 {
			if got, want := Of(l, cols), wantBlock(l, cols); !alike(got, want) {
				t.Fatalf("Of: %s", shown(l, cols, got, want))
			}
		}
	}
}

// P12.1: what a row has behind its first cols cells is all one.
func TestOfLooksAtTheFirstCellsAlone(t *testing.T) {
	for _, x := range samples() {
		long := deep(x.l)
		for i := range long {
			long[i].Row = append(long[i].Row, "tmore", strconv.Itoa(i), "")[:len(x.cols)+i%4]
		}
		if got, want := Of(long, len(x.cols)), Of(x.l, len(x.cols)); !alike(got, want) {
			t.Fatalf("Of: %s", shown(len(x.cols), got, want))
		}
		for cols := range len(x.cols) {
			if got, want := Of(x.l, cols), wantBlock(x.l, cols); !alike(got, want) {
				t.Fatalf("Of: %s", shown(cols, got, want))
			}
		}
	}
}

// P12.1: of fewer columns than none there are none; and of rows that haven't so many cells, and for what no room is, there is no block.
func TestOfWithoutColumns(t *testing.T) {
	l := []api.Times{at(1, "ta"), at(2, "tb", "tb")}
	for _, cols := range []int{0, -1, -2, math.MinInt + 1, math.MinInt} {
		for _, l := range [][]api.Times{nil, l, {at(1)}} {
			if got, want := Of(l, cols), wantBlock(l, 0); !alike(got, want) {
				t.Errorf("Of: %s", shown(l, cols, got, want))
			}
		}
	}
	for _, x := range []struct {
		l    []api.Times
		cols int
	}{
		{l, 2}, {l, 3}, {l, math.MaxInt}, {[]api.Times{l[1], l[0]}, 2}, {[]api.Times{at(1)}, 1}, {[]api.Times{at(1, []string{}...)}, 1}, {nil, math.MaxInt}, {[]api.Times{}, math.MaxInt - 1}, {nil, 1 << 31},
	} {
		if got := Of(x.l, x.cols); !alike(got, api.Block{}) {
			t.Errorf("Of: %s", shown(x.l, x.cols, got))
		}
	}
	if got := Of(nil, 1000); !alike(got, wantBlock(nil, 1000)) {
		t.Errorf("Of no rows has %d columns", len(got.Cols))
	}
}

// P12.2, P12.3: rows that may be, of each kind, from one on to 4096, are read as they were, and their block is the one that is read.
func TestThereAndBack(t *testing.T) {
	for _, x := range samples() {
		if !may(x.l, x.cols) {
			t.Fatalf("may not be: %s", shown(x.cols, x.l))
		}
		b := Of(x.l, len(x.cols))
		if b.Rows != len(x.l) || len(b.Cols) != len(x.cols) {
			t.Fatalf("Of: %s", shown(b, x.l))
		}
		isRead(t, b, x.cols, x.l)
		isSound(t, b, x.cols)
	}
}

// P12.2: no rows: no block; nor are 4097, with columns and without.
func TestHowManyRows(t *testing.T) {
	for _, cols := range []string{"", "i", "iTb", "ITB"} {
		isRefused(t, Of(nil, len(cols)), colsOf(cols))
		isRefused(t, api.Block{}, colsOf(cols))
	}
	l := numbered(4098)
	for many := 4095; many <= 4098; many++ {
		b := Of(l[:many], 3)
		if b.Rows != many {
			t.Fatalf("%d rows, not %d", b.Rows, many)
		}
		if many > 4096 {
			isRefused(t, b, colsOf("iTb"))
		} else {
			isRead(t, b, colsOf("iTb"), l[:many])
		}
	}
	// They are the same row, so none but the first is in order.
	for _, many := range []int{2, 3, 4096, 4097} {
		isRefused(t, Of(slices.Repeat([]api.Times{at(1)}, many), 0), nil)
	}
	isRead(t, Of([]api.Times{at(1)}, 0), []api.Col{}, []api.Times{at(1)})
}

// P12.2: of all short lists just those that may be are read, whatever else they are.
func TestShortLists(t *testing.T) {
	rows := [][]string{{"", cell.Int(1)}, {"ta", cell.Int(0)}, {"ta", cell.Int(1)}, {"tb", ""}, {"ta", "ta"}, {cell.Int(1), cell.Int(1)}}
	var few []api.Times
	for _, row := range rows {
		few = append(few, at(1, row...), at(300, row...))
	}
	few = append(few, at(0, rows[2]...), at(-1, rows[1]...), at(math.MaxInt, rows[1]...), at(math.MinInt, rows[2]...))
	read := map[string]int{}
	for _, l := range listsOf(few, 3) {
		b := Of(l, 2)
		for _, kinds := range []string{"Ti", "TI", "ti", "tI"} {
			cols := colsOf(kinds)
			if may(l, cols) {
				isRead(t, b, cols, l)
				read[kinds]++
			} else {
				isRefused(t, b, cols)
			}
		}
	}
	if read["TI"] <= read["Ti"] || read["Ti"] <= read["ti"] || read["tI"] <= read["ti"] || read["ti"] < 10 {
		t.Errorf("read: %v", read)
	}
}

// P12.2: each is there at least once, wherever it stands.
func TestEachIsThere(t *testing.T) {
	cols := colsOf("iTb")
	for _, many := range []int{1, 2, 5, 300} {
		for _, place := range []int{0, many / 2, many - 1} {
			for _, n := range []int{1, 2, 1 << 20, 1 << 40, math.MaxInt - 1, math.MaxInt, 0, -1, -2, -1 << 40, math.MinInt + 1, math.MinInt} {
				l := numbered(many)
				l[place].N = n
				if b := Of(l, 3); n > 0 {
					isRead(t, b, cols, l)
				} else {
					isRefused(t, b, cols)
				}
			}
		}
	}
	all := numbered(5)
	for i := range all {
		all[i].N = 0
	}
	isRefused(t, Of(all, 3), cols)
}

// P12.2: two rows that stand the other way round, or are the same, are told, wherever they stand.
func TestRowsInOrder(t *testing.T) {
	for _, l := range [][]api.Times{numbered(2), numbered(20), nested(20), nested(2)} {
		cols := colsOf("iTb")
		if l[0].Row[0][0] == 'b' {
			cols = colsOf("bti")
		}
		for i := range l {
			for j := range i {
				with := deep(l)
				with[i].Row, with[j].Row = with[j].Row, with[i].Row
				isRefused(t, Of(with, 3), cols)
			}
			isRefused(t, Of(slices.Insert(deep(l), i, at(1, l[i].Row...)), 3), cols)
			isRead(t, Of(slices.Delete(deep(l), i, i+1), 3), cols, slices.Delete(deep(l), i, i+1))
		}
	}
	// The last cell alone tells them apart; under fewer columns they are the same.
	l := []api.Times{at(1, "ta", "ta"), at(1, "ta", "tb")}
	isRead(t, Of(l, 2), colsOf("tt"), l)
	isRefused(t, Of(l, 1), colsOf("t"))
	isRefused(t, Of(l, 0), nil)
}

// P12.2: each kind of cell, and each text that is none, in each column, by each kind, and with nothing and without.
func TestCellsFit(t *testing.T) {
	cells := []string{
		"", cell.Bool(false), cell.Bool(true), cell.Int(math.MinInt), cell.Int(0), cell.Text(""), cell.Text("a"), cell.Text("0123456789abcdef"),
		"b", "b\x02", "b\x00\x00", "i", cell.Int(0)[:8], cell.Int(0) + "\x00", cell.Text("0123456789abcdefg"), "\x00", "x", "xa", "T", "\xff",
	}
	for _, c := range cells {
		for _, kind := range []byte{0, 'b', 'i', 't', 'x', 'T', 255} {
			for _, null := range []bool{false, true} {
				for place := range 3 {
					cols, row := colsOf("III"), []string{"", cell.Int(4), ""}
					cols[place], row[place] = api.Col{Kind: kind, Null: null}, c
					l := []api.Times{at(2, row...)}
					if b := Of(l, 3); may(l, cols) {
						isRead(t, b, cols, l)
					} else {
						isRefused(t, b, cols)
					}
				}
			}
		}
	}
}

// P12.2: one cell that doesn't fit is told, in whichever row it stands.
func TestOneCellDoesNotFit(t *testing.T) {
	cols := colsOf("iTb")
	for i := range 20 {
		for c, wrong := range []string{"", cell.Int(1), ""} {
			l := numbered(20)
			l[i].Row[c] = wrong
			isRefused(t, Of(l, 3), cols)
		}
	}
	// Rows that a number follows are in order still, so it is the kind alone that tells.
	l := append(numbered(20), at(1, "t", "", cell.Bool(true)))
	isRefused(t, Of(l, 3), cols)
	isRefused(t, Of(l[20:], 3), cols)
	isRead(t, Of(l[20:], 3), colsOf("tTb"), l[20:])
}

// P12.2: a block has just as many columns as cols, and each of them at its own place.
func TestAsManyColumns(t *testing.T) {
	for _, x := range samples() {
		b := Of(x.l, len(x.cols))
		for _, more := range []string{"\x00\x00", column.Print(make([]string, len(x.l))), "", b.N} {
			isRefused(t, fixed(b, func(b *api.Block) { b.Cols = append(b.Cols, more) }), x.cols)
		}
		isRefused(t, b, append(slices.Clip(x.cols), api.Col{Kind: 't', Null: true}))
		isRefused(t, b, append(slices.Clip(x.cols), api.Col{}))
		for c := range x.cols {
			isRefused(t, b, x.cols[:c])
			isRefused(t, fixed(b, func(b *api.Block) { b.Cols = slices.Delete(b.Cols, c, c+1) }), x.cols)
		}
		isRead(t, b, x.cols, x.l)
	}
	l := []api.Times{at(1, cell.Int(1), "ta", cell.Bool(true))}
	for _, kinds := range listsOf([]byte("bit"), 4) {
		if b := Of(l, 3); string(kinds) == "itb" {
			isRead(t, b, colsOf("itb"), l)
		} else {
			isRefused(t, b, colsOf(string(kinds)))
		}
	}
}

// P12.2: Rows is just how many rows the columns have, and N.
func TestRowsOfAnotherNumber(t *testing.T) {
	for _, x := range samples() {
		b := Of(x.l, len(x.cols))
		for _, many := range []int{
			math.MinInt, math.MinInt + 1, -4096, -1, 0, 1, 2, 3, 4, 128, 4095, 4096, 4097, 1 << 20, 1 << 61, math.MaxInt - 1, math.MaxInt,
			-len(x.l), len(x.l) - 1, len(x.l) + 1, 2 * len(x.l), len(x.l) + 1<<32, len(x.l) + math.MinInt,
		} {
			if with := fixed(b, func(b *api.Block) { b.Rows = many }); many != len(x.l) {
				isRefused(t, with, x.cols)
			}
		}
	}
	// N of as many rows by itself doesn't make up for a column of other many, nor the other way round.
	three, two := Of(numbered(3), 3), Of(numbered(2), 3)
	cols := colsOf("iTb")
	isRefused(t, fixed(three, func(b *api.Block) { b.N = two.N }), cols)
	isRefused(t, fixed(two, func(b *api.Block) { b.N = three.N }), cols)
	for c := range 3 {
		isRefused(t, fixed(three, func(b *api.Block) { b.Cols[c] = two.Cols[c] }), cols)
		isRefused(t, fixed(two, func(b *api.Block) { b.Cols[c] = three.Cols[c] }), cols)
	}
	for _, many := range []int{-1, 0, 2, 4096, 4097, math.MaxInt} {
		isRefused(t, api.Block{Rows: many, N: shelf.Print([]int{1})}, nil)
	}
	isRead(t, api.Block{Rows: 1, N: shelf.Print([]int{1})}, nil, []api.Times{at(1)})
	isRead(t, api.Block{Rows: 1, Cols: []string{}, N: shelf.Print([]int{1})}, []api.Col{}, []api.Times{at(1)})
}

// P12.2: bytes left over behind a column, or behind N's numbers, and such as are missing there, are told.
func TestBytesBehindAndMissing(t *testing.T) {
	for _, x := range samples() {
		b := Of(x.l, len(x.cols))
		for _, more := range []string{"\x00", "\x01", "\x80", "\xff", "\x00\x00", b.N} {
			isRefused(t, fixed(b, func(b *api.Block) { b.N += more }), x.cols)
			isSound(t, fixed(b, func(b *api.Block) { b.N = more[:1] + b.N }), x.cols)
			for c := range x.cols {
				isRefused(t, fixed(b, func(b *api.Block) { b.Cols[c] += more }), x.cols)
			}
		}
		for _, less := range []int{1, 2, len(b.N) / 2, len(b.N)} {
			isRefused(t, fixed(b, func(b *api.Block) { b.N = b.N[:len(b.N)-less] }), x.cols)
		}
		for c, s := range b.Cols {
			for _, less := range []int{1, 2, len(s) / 2, len(s)} {
				isRefused(t, fixed(b, func(b *api.Block) { b.Cols[c] = s[:len(s)-less] }), x.cols)
			}
		}
	}
}

// P12.2: the same cells, and the same numbers, in another form are none.
func TestOtherForms(t *testing.T) {
	l := []api.Times{at(1, "ta"), at(2, "tb"), at(1, "tc")}
	b, cols := Of(l, 1), colsOf("t")
	for way := range 2 {
		s, _ := column.As([]string{"ta", "tb", "tc"}, way)
		with := fixed(b, func(b *api.Block) { b.Cols[0] = "\x03" + string(rune(way)) + s })
		if alike(with, b) {
			isRead(t, with, cols, l)
		} else {
			isRefused(t, with, cols)
		}
	}
	if b.N != "\x02\x01\x00\x01\x00" {
		t.Fatalf("N is %q", b.N)
	}
	for _, n := range []string{
		"\x00\x01\x01\x02\x01", "\x02\x02\x00\x00\x01\x00\x00\x00", "\x82\x00\x01\x00\x01\x00", "\x02\x81\x00\x00\x01\x00", "\x04\x01\xff\x01\xff", "", "\x02", "\x02\x01", "\x02\x01\x00\x01", "\x02\x09" + strings.Repeat("\x00", 27),
	} {
		isRefused(t, fixed(b, func(b *api.Block) { b.N = n }), cols)
	}
	isRead(t, fixed(b, func(b *api.Block) { b.N = "\x02\x00" }), cols, []api.Times{at(1, "ta"), at(1, "tb"), at(1, "tc")})
	isRead(t, fixed(b, func(b *api.Block) { b.N = "\x04\x01\x00\x01\xff" }), cols, []api.Times{at(2, "ta"), at(3, "tb"), at(257, "tc")})
}

// P12.3: whatever byte of a small block is another one, comes, or goes, what is read is its rows' block.
func TestEachByteChanged(t *testing.T) {
	read := 0
	for _, x := range []sample{
		{colsOf("t"), []api.Times{at(1, "ta"), at(2, "tb"), at(1, "tc")}}, {colsOf("IT"), []api.Times{at(2, "", "ta"), at(3, cell.Int(1), ""), at(300, cell.Int(2), "ta")}},
		{colsOf("TB"), numberless()}, {colsOf("b"), []api.Times{at(1, cell.Bool(false)), at(1, cell.Bool(true))}}, {nil, []api.Times{at(5)}},
	} {
		b := Of(x.l, len(x.cols))
		isRead(t, b, x.cols, x.l)
		for c := -1; c < len(b.Cols); c++ {
			s := b.N
			if c >= 0 {
				s = b.Cols[c]
			}
			for _, with := range changes(s) {
				other := fixed(b, func(b *api.Block) {
					if c < 0 {
						b.N = with
					} else {
						b.Cols[c] = with
					}
				})
				if isSound(t, other, x.cols) {
					read++
				}
			}
		}
	}
	if read < 500 {
		t.Errorf("%d are read", read)
	}
}

// numberless are rows of a text or nothing, and yes, no or nothing.
func numberless() []api.Times {
	var l []api.Times
	for _, s := range []string{"", "t", "ta", "tb"} {
		for _, b := range []string{"", cell.Bool(false), cell.Bool(true)} {
			l = append(l, at(len(l)%3+1, s, b))
		}
	}
	return l
}

// changes are a text with each byte another one, with each byte put in, and with each taken out.
func changes(s string) []string {
	var l []string
	for i := range len(s) + 1 {
		for b := range 256 {
			l = append(l, s[:i]+string([]byte{byte(b)})+s[i:])
			if i < len(s) {
				l = append(l, s[:i]+string([]byte{byte(b)})+s[i+1:])
			}
		}
		if i < len(s) {
			l = append(l, s[:i]+s[i+1:])
		}
	}
	return l
}

// P12.3: of all short texts as N, and as the one column, those alone are read that are rows' that may be, and each of these is.
func TestOneFormAlone(t *testing.T) {
	columns := map[string][]string{}
	for _, cells := range listsOf([]string{"", "t", "ta", "tb", "t\x02"}, 3) {
		columns[column.Print(cells)] = cells
	}
	for _, s := range textsOf("\x00\x01\x02\x03ta", 6) {
		for many := 1; many < 4; many++ {
			b := api.Block{Rows: many, Cols: []string{s}, N: shelf.Print(slices.Repeat([]int{1}, many))}
			var l []api.Times
			for _, c := range columns[s] {
				l = append(l, at(1, c))
			}
			if len(l) == many && may(l, colsOf("T")) {
				isRead(t, b, colsOf("T"), l)
			} else if isSound(t, b, colsOf("T")) && len(l) == many {
				t.Fatalf("read, but may not be: %s", shown(s, l))
			}
		}
	}
	cells := []string{"", "ta", "tb"}
	for many := 1; many < 4; many++ {
		read := 0
		for _, s := range textsOf("\x00\x01\x02\x03\x80", 6) {
			if isSound(t, api.Block{Rows: many, Cols: []string{column.Print(cells[:many])}, N: s}, colsOf("T")) {
				read++
			}
		}
		if read < 3 {
			t.Errorf("%d of %d rows are read", read, many)
		}
	}
}

// P12.2: structs that hold whatever they do are refused, and nothing panics.
func TestAnythingAtAll(t *testing.T) {
	texts := []string{"", "\x00", "\x00\x00", "\x01\x00", "\x02\x00", "\x01\x00\x02ta\x01", "\xff\xff\xff\xff\xff\xff\xff\xff\xff\x01", strings.Repeat("\x00", 5000), strings.Repeat("\x80", 100)}
	manys := []int{math.MinInt, -1, 0, 1, 2, 4096, 4097, 1 << 62, math.MaxInt}
	read := 0
	for _, many := range manys {
		for _, n := range texts {
			for _, columns := range listsOf(texts, 2) {
				for _, kinds := range []string{"", "t", "T", "Tt", "\x00", "BBBBBBBB"} {
					if isSound(t, api.Block{Rows: many, Cols: columns, N: n}, colsOf(kinds)) {
						read++
					}
				}
			}
		}
	}
	// One row once: of no column, of "ta" by either kind of column, and of both columns.
	if read != 4 {
		t.Errorf("%d are read", read)
	}
}

// What is handed in isn't changed, its spare room neither, and answers are new memory.
func TestNothingIsChangedOrShared(t *testing.T) {
	room := append(numbered(6), at(77, "spare"), at(78))
	for i := range room {
		room[i].Row = append(slices.Clone(room[i].Row), "spare", "")[:len(room[i].Row)]
	}
	was, l, cols := deep(room), room[:6], append(colsOf("iTb"), api.Col{Kind: 'x'})[:3]
	b := Of(l, 3)
	columns := append(slices.Clone(b.Cols), "spare")
	b.Cols = columns[:3]
	before := slices.Clone(columns)
	for range 2 {
		other := Of(l, 3)
		if !alike(other, b) {
			t.Fatalf("changed: %s", shown(other, b))
		}
		for c := range other.Cols {
			other.Cols[c] = "changed"
		}
		got, e := Rows(b, cols)
		if e != api.OK || !same(got, was[:6]) {
			t.Fatalf("changed: %s", shown(got, e))
		}
		for i := range got {
			_ = append(got[i].Row, "more")
			for c := range got[i].Row {
				got[i].Row[c] = "changed"
			}
			if i+1 < len(got) && !same(got[i+1:], was[i+1:6]) {
				t.Fatalf("%q stands in other rows", got[i].Row)
			}
		}
		_ = append(got, at(1, "more"))
	}
	if !same(room, was) || !slices.Equal(columns, before) || !slices.Equal(cols[:4], append(colsOf("iTb"), api.Col{Kind: 'x'})) {
		t.Fatalf("changed: %s", shown(room, columns, cols[:4]))
	}
	for i := range room {
		if spare := room[i].Row[:len(room[i].Row)+2]; spare[len(spare)-2] != "spare" || spare[len(spare)-1] != "" {
			t.Fatalf("spare room is %q", spare)
		}
	}
}

// Any number of goroutines may call at once.
func TestAtOnce(t *testing.T) {
	l, cols := numbered(50), colsOf("iTb")
	b := Of(l, 3)
	var all sync.WaitGroup
	for range 8 {
		all.Go(func() {
			for range 20 {
				got, e := Rows(b, cols)
				if e != api.OK || !same(got, l) || !alike(Of(l, 3), b) {
					t.Error("calls at once aren't as one alone")
				}
			}
		})
	}
	all.Wait()
}
