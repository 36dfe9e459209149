package fold

import (
	"encoding/binary"
	"fmt"
	"math"
	"math/big"
	"slices"
	"strconv"
	"strings"
	"sync"
	"testing"

	"distiller/api"
	"distiller/cell"
	"distiller/pair"
	"distiller/sieve"
	"distiller/weigh"
	"distiller/wide"
)

const (
	yes     = "b\x01"
	no      = "b\x00"
	nothing = ""
	// most is how often rows may be there together.
	most = 1 << 62
)

// How rows are taken together, of the first column where it isn't named.
var (
	count    = api.Agg{Way: api.AggCount}
	sum      = api.Agg{Way: api.AggSum}
	least    = api.Agg{Way: api.AggMin}
	greatest = api.Agg{Way: api.AggMax}
)

// of is the way, of another column.
func of(a api.Agg, col int) api.Agg {
	return api.Agg{Way: a.Way, Col: col}
}

// row is a row of these cells.
func row(cells ...string) []string { return cells }

// times is a row of these cells, so often.
func times(n int, cells ...string) api.Times {
	return api.Times{Row: cells, N: n}
}

// column is a row of each of these cells, once.
func column(cells ...string) []api.Times {
	var l []api.Times
	for _, c := range cells {
		l = append(l, times(1, c))
	}
	return l
}

// same tells whether two lists have the same rows, as often, as they stand.
func same(a, b []api.Times) bool {
	return slices.EqualFunc(a, b, func(x, y api.Times) bool { return x.N == y.N && slices.Equal(x.Row, y.Row) })
}

// deep is the list in memory of its own.
func deep(l []api.Times) []api.Times {
	out := make([]api.Times, len(l))
	for i, x := range l {
		out[i] = api.Times{Row: slices.Clone(x.Row), N: x.N}
	}
	return out
}

// listsOf are all lists of up to most of these.
func listsOf[T any](these []T, most int) [][]T {
	var l [][]T
	var all func(ahead []T)
	all = func(ahead []T) {
		l = append(l, ahead)
		if len(ahead) == most {
			return
		}
		for _, x := range these {
			all(append(slices.Clip(ahead), x))
		}
	}
	all(nil)
	return l
}

// ordersOf are all orders of these.
func ordersOf(these []api.Times) [][]api.Times {
	if len(these) == 0 {
		return [][]api.Times{nil}
	}
	var l [][]api.Times
	for i, x := range these {
		for _, others := range ordersOf(slices.Concat(these[:i], these[i+1:])) {
			l = append(l, append([]api.Times{x}, others...))
		}
	}
	return l
}

// named is a text by which cells are told apart: each behind how long it is.
func named(cells []string) string {
	var b strings.Builder
	for _, c := range cells {
		b.WriteString(strconv.Itoa(len(c)) + ":" + c)
	}
	return b.String()
}

// ahead tells whether cells stand ahead of others: by the first that is unlike.
func ahead(a, b []string) bool {
	for i := range a {
		if a[i] != b[i] {
			return a[i] < b[i]
		}
	}
	return false
}

// numberOf is the number that a cell is, 0 of any other: i, and its bits, the highest one turned.
func numberOf(c string) *big.Int {
	if len(c) != 9 || c[0] != 'i' {
		return new(big.Int)
	}
	return big.NewInt(int64(binary.BigEndian.Uint64([]byte(c[1:])) ^ 1<<63))
}

// cellOf is what an answer has of a number without ends.
func cellOf(n *big.Int) (string, api.Errno) {
	if !n.IsInt64() {
		return "", api.ErrOver
	}
	return "i" + string(binary.BigEndian.AppendUint64(nil, uint64(n.Int64())^1<<63)), api.OK
}

// valued is what Value is to be, by numbers without ends, and cells that are put in order.
func valued(l []api.Times, a api.Agg) (string, api.Errno) {
	rows, total := new(big.Int), new(big.Int)
	var cells []string
	for _, x := range l {
		n := big.NewInt(int64(x.N))
		rows.Add(rows, n)
		if a.Col >= 0 && a.Col < len(x.Row) && len(x.Row[a.Col]) > 0 {
			cells = append(cells, x.Row[a.Col])
			total.Add(total, n.Mul(n, numberOf(x.Row[a.Col])))
		}
	}
	slices.Sort(cells)
	if a.Way == 1 {
		return cellOf(rows)
	}
	if len(cells) == 0 {
		return "", api.OK
	}
	if a.Way == 3 {
		return cells[0], api.OK
	}
	if a.Way == 4 {
		return cells[len(cells)-1], api.OK
	}
	return cellOf(total)
}

// picked are the row's cells in these columns, and whether it has each.
func picked(row []string, by []int) ([]string, bool) {
	var cells []string
	for _, col := range by {
		if col < 0 || col >= len(row) {
			return nil, false
		}
		cells = append(cells, row[col])
	}
	return cells, true
}

// grouped is what Groups is to be: rows laid into a map by their cells.
func grouped(l []api.Times, by []int, aggs []api.Agg) ([]api.Times, api.Errno) {
	keys, rows := map[string][]string{}, map[string][]api.Times{}
	for _, x := range l {
		if key, has := picked(x.Row, by); has {
			keys[named(key)] = key
			rows[named(key)] = append(rows[named(key)], x)
		}
	}
	var out []api.Times
	for name, key := range keys {
		cells := slices.Clone(key)
		for _, a := range aggs {
			c, err := valued(rows[name], a)
			if err != api.OK {
				return nil, err
			}
			cells = append(cells, c)
		}
		out = append(out, times(1, cells...))
	}
	slices.SortFunc(out, func(a, b api.Times) int {
		if ahead(a.Row, b.Row) {
			return -1
		}
		return 1
	})
	return out, api.OK
}

// few are rows with numbers near the ends, nothing, texts, or without a column.
func few() []api.Times {
	return []api.Times{times(2, "ta", cell.Int(5)), times(1, "ta", cell.Int(-7)), times(3, "tb", nothing), times(1, "tb", cell.Int(math.MaxInt)), times(1, nothing, cell.Int(math.MinInt)), times(1, "ta"), times(2, cell.Int(1), "tx"), times(4)}
}

// bys are columns that rows are taken together by: none, one, two, the same twice, and such as some rows, or all, haven't.
func bys() [][]int {
	return append(listsOf([]int{0, 1, 2}, 2), []int{-1}, []int{0, -1}, []int{math.MinInt}, []int{math.MaxInt}, []int{0, math.MaxInt}, []int{0, 1, 0}, []int{1, 1, 1})
}

// ways are all ways, and numbers that are none, each of columns that rows have, or haven't.
func ways() []api.Agg {
	var l []api.Agg
	for _, way := range []int{api.AggCount, api.AggSum, api.AggMin, api.AggMax, 0, -1, 5, math.MaxInt, math.MinInt} {
		for _, col := range []int{0, 1, 2, -1, math.MaxInt, math.MinInt} {
			l = append(l, api.Agg{Way: way, Col: col})
		}
	}
	return l
}

// comesTo asks Value, where no number is beyond 64 bits.
func comesTo(t *testing.T, want string, l []api.Times, a api.Agg) {
	t.Helper()
	if got, err := Value(l, a); got != want || err != api.OK {
		t.Errorf("Value(%.300q, %v) = %q, %d, not %q", fmt.Sprint(l), a, got, err, want)
	}
}

// isOver asks Value, where a number is beyond 64 bits.
func isOver(t *testing.T, l []api.Times, a api.Agg) {
	t.Helper()
	if got, err := Value(l, a); got != "" || err != api.ErrOver {
		t.Errorf("Value(%.300q, %v) = %q, %d, not ErrOver", fmt.Sprint(l), a, got, err)
	}
}

// groupsTo asks Groups, where no number is beyond 64 bits.
func groupsTo(t *testing.T, l []api.Times, by []int, aggs []api.Agg, want ...api.Times) {
	t.Helper()
	if got, err := Groups(l, by, aggs); !same(got, want) || err != api.OK {
		t.Errorf("Groups(%.500q, %.300s, %.300s) = %.500q, %d, not %.500q", fmt.Sprint(l), fmt.Sprint(by), fmt.Sprint(aggs), fmt.Sprint(got), err, fmt.Sprint(want))
	}
}

// groupsOver asks Groups, where a number is beyond 64 bits.
func groupsOver(t *testing.T, l []api.Times, by []int, aggs []api.Agg) {
	t.Helper()
	if got, err := Groups(l, by, aggs); len(got) != 0 || err != api.ErrOver {
		t.Errorf("Groups(%.500q, %.300s, %.300s) = %.500q, %d, not ErrOver", fmt.Sprint(l), fmt.Sprint(by), fmt.Sprint(aggs), fmt.Sprint(got), err)
	}
}

// P20.1: written out: of each way, of each column.
func TestValueWrittenOut(t *testing.T) {
	l := []api.Times{times(2, "tb", cell.Int(5)), times(1, "ta", nothing), times(3, "tc", cell.Int(-4)), times(1, nothing, cell.Int(7))}
	comesTo(t, cell.Int(7), l, count)
	comesTo(t, cell.Int(7), l, of(count, 1))
	comesTo(t, cell.Int(2*5-3*4+7), l, of(sum, 1))
	comesTo(t, cell.Int(-4), l, of(least, 1))
	comesTo(t, cell.Int(7), l, of(greatest, 1))
	comesTo(t, cell.Int(0), l, of(sum, 0))
	comesTo(t, "ta", l, of(least, 0))
	comesTo(t, "tc", l, of(greatest, 0))
	comesTo(t, cell.Int(5), l[:1], of(least, 1))
	comesTo(t, cell.Int(5), l[:1], of(greatest, 1))
	comesTo(t, cell.Int(10), l[:1], of(sum, 1))
	comesTo(t, cell.Int(2), l[:1], count)
}

// P20.1: of no rows there are none, and all else is nothing.
func TestValueOfNoRows(t *testing.T) {
	for _, l := range [][]api.Times{nil, {}, few()[:0]} {
		for _, a := range ways() {
			if a.Way == api.AggCount {
				comesTo(t, cell.Int(0), l, a)
			} else {
				comesTo(t, nothing, l, a)
			}
		}
	}
}

// P20.1: how many rows: nothing, and rows that haven't the column, count; a row counts as often as it is there.
func TestValueCounts(t *testing.T) {
	for _, col := range []int{0, 1, 2, 100, -1, math.MaxInt, math.MinInt} {
		a := of(count, col)
		comesTo(t, cell.Int(1), []api.Times{times(1)}, a)
		comesTo(t, cell.Int(1), []api.Times{times(1, nothing)}, a)
		comesTo(t, cell.Int(3), []api.Times{times(3, "ta", nothing)}, a)
		comesTo(t, cell.Int(3), []api.Times{times(1, "ta"), times(1, "ta"), times(1, "ta")}, a)
		comesTo(t, cell.Int(10), []api.Times{times(1, "ta"), times(2), times(3, nothing, nothing), times(4, "ta", cell.Int(8))}, a)
		for _, n := range []int{1, 2, 1 << 20, 1<<31 - 1, 1 << 31, 1 << 32, 1<<53 + 1, most - 1, most} {
			comesTo(t, cell.Int(n), []api.Times{times(n, "ta", cell.Int(n))}, a)
		}
		comesTo(t, cell.Int(most), []api.Times{times(most/2, "ta"), times(most/2-1, "tb"), times(1)}, a)
		comesTo(t, cell.Int(math.MaxInt), []api.Times{times(most, "ta"), times(most-1, "tb")}, a)
		isOver(t, []api.Times{times(most, "ta"), times(most, "tb")}, a)
		isOver(t, []api.Times{times(math.MaxInt, "ta"), times(math.MaxInt, "tb"), times(2)}, a)
	}
}

// P20.1: a cell must be there: in no row, or in some of them.
func TestValueWhereAColumnIs(t *testing.T) {
	l := []api.Times{times(2), times(3, cell.Int(7)), times(5, cell.Int(9), cell.Int(4)), times(1, nothing, cell.Int(1), cell.Int(20))}
	comesTo(t, cell.Int(21+45), l, sum)
	comesTo(t, cell.Int(7), l, least)
	comesTo(t, cell.Int(9), l, greatest)
	comesTo(t, cell.Int(20+1), l, of(sum, 1))
	comesTo(t, cell.Int(1), l, of(least, 1))
	comesTo(t, cell.Int(4), l, of(greatest, 1))
	for _, a := range []api.Agg{sum, least, greatest} {
		comesTo(t, cell.Int(20), l, of(a, 2))
		for _, col := range []int{3, 4, 100, 1 << 32, math.MaxInt, -1, -2, -3, -1 << 32, math.MinInt} {
			comesTo(t, nothing, l, of(a, col))
		}
		comesTo(t, nothing, l[:1], a)
		comesTo(t, nothing, l[3:], a)
		comesTo(t, nothing, []api.Times{times(1, nothing), times(7, nothing, cell.Int(3)), times(2)}, a)
		// What is in a row's spare room isn't there.
		spare := row("ta", cell.Int(3))
		comesTo(t, nothing, []api.Times{{Row: spare[:1], N: 1}}, of(a, 1))
		comesTo(t, cell.Int(3), []api.Times{{Row: spare, N: 1}}, of(a, 1))
	}
}

// P20.1: nothing doesn't count, wherever it stands: it is not the least, and no 0 either.
func TestValueOfNothing(t *testing.T) {
	for _, l := range [][]api.Times{column(nothing, cell.Int(-5), cell.Int(-3)), column(cell.Int(-5), nothing, cell.Int(-3)), column(cell.Int(-3), cell.Int(-5), nothing), column(nothing, cell.Int(-3), nothing, nothing, cell.Int(-5), nothing)} {
		comesTo(t, cell.Int(-8), l, sum)
		comesTo(t, cell.Int(-5), l, least)
		comesTo(t, cell.Int(-3), l, greatest)
	}
	// Something that comes to 0 isn't nothing.
	comesTo(t, cell.Int(0), column(nothing, cell.Int(0)), sum)
	comesTo(t, cell.Int(0), column(cell.Int(4), nothing, cell.Int(-4)), sum)
	comesTo(t, cell.Int(0), column(nothing, "t"), sum)
	comesTo(t, "t", column(nothing, "t"), least)
	comesTo(t, no, column(no, nothing), greatest)
	comesTo(t, "\x00", column(nothing, "\x00"), least)
	comesTo(t, "\x00", column("\x00", nothing), greatest)
}

// P20.1: the sum: each number as often as its row is there, up to the ends of 64 bits, and one beyond.
func TestValueSums(t *testing.T) {
	for _, n := range []int{0, 1, -1, 5, -5, 255, 256, -256, 1 << 31, -1 << 31, 1 << 32, 1 << 42, -1 << 42} {
		for _, many := range []int{1, 2, 3, 1000, 1<<20 - 1, 1 << 20} {
			comesTo(t, cell.Int(n*many), []api.Times{times(many, cell.Int(n))}, sum)
			comesTo(t, cell.Int(n*many+n+3), []api.Times{times(many, cell.Int(n)), times(1, cell.Int(n)), times(3, cell.Int(1))}, sum)
		}
	}
	comesTo(t, cell.Int(math.MaxInt), column(cell.Int(math.MaxInt)), sum)
	comesTo(t, cell.Int(math.MinInt), column(cell.Int(math.MinInt)), sum)
	comesTo(t, cell.Int(math.MaxInt), column(cell.Int(math.MaxInt-1), cell.Int(1)), sum)
	comesTo(t, cell.Int(math.MinInt), column(cell.Int(math.MinInt+1), cell.Int(-1)), sum)
	comesTo(t, cell.Int(math.MinInt), []api.Times{times(2, cell.Int(-1<<62))}, sum)
	comesTo(t, cell.Int(math.MinInt), []api.Times{times(1<<20, cell.Int(-1<<43))}, sum)
	comesTo(t, cell.Int(most), []api.Times{times(most, cell.Int(1))}, sum)
	comesTo(t, cell.Int(-most), []api.Times{times(most, cell.Int(-1))}, sum)
	comesTo(t, cell.Int(math.MinInt), []api.Times{times(most, cell.Int(-2))}, sum)
	for _, l := range [][]api.Times{
		column(cell.Int(math.MaxInt), cell.Int(1)), column(cell.Int(1), cell.Int(math.MaxInt)), column(cell.Int(math.MinInt), cell.Int(-1)), column(cell.Int(math.MaxInt), cell.Int(math.MaxInt)), column(cell.Int(math.MinInt), cell.Int(math.MinInt)),
		{times(2, cell.Int(math.MaxInt))}, {times(2, cell.Int(1<<62))}, {times(2, cell.Int(-1<<62-1))}, {times(4, cell.Int(1<<62))}, {times(8, cell.Int(1<<62))}, {times(4, cell.Int(-1<<62))},
		{times(1<<20, cell.Int(1<<43))}, {times(1<<20, cell.Int(-1<<43-1))}, {times(most, cell.Int(2))}, {times(most, cell.Int(4))}, {times(most, cell.Int(-3))}, {times(most, cell.Int(math.MaxInt))}, {times(most, cell.Int(math.MinInt))},
		{times(1<<32, cell.Int(1<<32))}, {times(1<<32, cell.Int(1<<32+1))}, {times(1<<32, cell.Int(-1<<32))},
	} {
		isOver(t, l, sum)
		// It is the sum alone that is beyond: all else is told.
		comesTo(t, slices.MinFunc(l, byCell).Row[0], l, least)
		comesTo(t, slices.MaxFunc(l, byCell).Row[0], l, greatest)
		for _, a := range []api.Agg{count, of(sum, 1)} {
			if _, err := Value(l, a); err != api.OK {
				t.Errorf("Value(%q, %v) = %d", fmt.Sprint(l), a, err)
			}
		}
	}
}

// byCell tells which row's first cell stands ahead.
func byCell(x, y api.Times) int { return strings.Compare(x.Row[0], y.Row[0]) }

// P20.1: a sum that goes beyond 64 bits on its way, and comes back, is told, in whatever order rows come.
func TestValueSumsComeBack(t *testing.T) {
	for _, x := range []struct {
		l    []api.Times
		want int
	}{
		{column(cell.Int(math.MaxInt), cell.Int(1), cell.Int(-1)), math.MaxInt},
		{column(cell.Int(math.MinInt), cell.Int(-1), cell.Int(1)), math.MinInt},
		{column(cell.Int(math.MaxInt), cell.Int(math.MaxInt), cell.Int(math.MinInt), cell.Int(math.MinInt)), -2},
		{[]api.Times{times(2, cell.Int(math.MaxInt)), times(2, cell.Int(math.MinInt))}, -2},
		{[]api.Times{times(1<<20, cell.Int(math.MaxInt)), times(1<<20, cell.Int(-math.MaxInt)), times(3, cell.Int(5))}, 15},
		{[]api.Times{times(most/2, cell.Int(math.MaxInt)), times(most/2, cell.Int(math.MinInt)), times(1, nothing)}, -most / 2},
		{[]api.Times{times(4, cell.Int(1<<62)), times(1, cell.Int(math.MinInt)), times(1, cell.Int(math.MinInt)), times(1, cell.Int(9))}, 9},
	} {
		for _, l := range ordersOf(x.l) {
			comesTo(t, cell.Int(x.want), l, sum)
		}
	}
}

// P20.1: a cell that is no number's counts 0, alone and beside numbers.
func TestValueSumsOfNoNumbers(t *testing.T) {
	eight := cell.Int(8)
	for _, c := range []string{no, yes, "t", "ta", "t8", "b", "b\x02", "i", eight[:8], eight + "\x00", eight + eight, "I" + eight[1:], "j" + eight[1:], "t" + eight[1:], "x", "\x00", "\xff", "8", "i8", strings.Repeat("i", 9)[1:]} {
		comesTo(t, cell.Int(0), column(c), sum)
		comesTo(t, cell.Int(0), []api.Times{times(7, c), times(3, nothing)}, sum)
		comesTo(t, cell.Int(2*8-3), []api.Times{times(2, eight), times(5, c), times(1, cell.Int(-3))}, sum)
		comesTo(t, cell.Int(2*8-3), []api.Times{times(most, c), times(2, eight), times(1, cell.Int(-3))}, sum)
		isOver(t, []api.Times{times(2, cell.Int(math.MaxInt)), times(1, c)}, sum)
	}
}

// upward are cells of all kinds, and texts that are no cells, as they stand.
func upward() []string {
	return []string{"\x00", "b", no, "b\x00\x00", yes, "b\x02", "i", cell.Int(math.MinInt), cell.Int(math.MinInt + 1), cell.Int(-256), cell.Int(-1), cell.Int(0), cell.Int(1), cell.Int(255), cell.Int(256), cell.Int(math.MaxInt), "t", "t1", "t10", "t9", "tA", "ta", "ta\x00", "ta ", "taa", "tb", "t\x7f", "t\x80", "t\xff", "x", "\x80", "\xff", "\xff\x00"}
}

// P20.1: the least and the greatest: of each two, and three, cells, as they stand, however often they are there.
func TestValueLeastAndGreatest(t *testing.T) {
	in := upward()
	for i, c := range in {
		for j, d := range in {
			l := []api.Times{times(1, c), times(2, nothing), times(1<<20, d)}
			comesTo(t, in[min(i, j)], l, least)
			comesTo(t, in[max(i, j)], l, greatest)
			for k, e := range in {
				comesTo(t, in[min(i, j, k)], column(c, d, e), least)
				comesTo(t, in[max(i, j, k)], column(c, d, e), greatest)
			}
		}
	}
	// Beyond what may be a cell too.
	long := "t" + strings.Repeat("a", 1000)
	comesTo(t, long, column("tb", long, "tc"), least)
	comesTo(t, long+"b", column(long, long+"b", long+"a"), greatest)
}

// P20.1: any other way is the sum.
func TestValueOfAnyOtherWay(t *testing.T) {
	l := []api.Times{times(2, "tb", cell.Int(5)), times(1, "ta", nothing), times(3, "tc", cell.Int(-4))}
	over := []api.Times{times(2, "ta", cell.Int(math.MaxInt))}
	ask := func(way int) {
		comesTo(t, cell.Int(-2), l, api.Agg{Way: way, Col: 1})
		comesTo(t, cell.Int(0), l, api.Agg{Way: way})
		comesTo(t, nothing, l, api.Agg{Way: way, Col: 2})
		comesTo(t, nothing, l[1:2], api.Agg{Way: way, Col: 1})
		comesTo(t, nothing, nil, api.Agg{Way: way, Col: 1})
		isOver(t, over, api.Agg{Way: way, Col: 1})
	}
	for way := -300; way <= 300; way++ {
		switch way {
		case 1, 3, 4:
		default:
			ask(way)
		}
	}
	for _, way := range []int{1<<32 + 1, 1<<32 + 3, 1<<32 + 4, -1<<32 + 1, 257, math.MaxInt, math.MinInt, math.MinInt + 1, math.MinInt + 3, math.MinInt + 4} {
		ask(way)
	}
}

// P20.1: all short lists, in each way, of each column.
func TestValueOfShortLists(t *testing.T) {
	over, not := 0, 0
	for _, l := range listsOf(few(), 4) {
		for _, a := range ways() {
			want, wantErr := valued(l, a)
			if got, err := Value(l, a); got != want || err != wantErr {
				t.Fatalf("Value(%q, %v) = %q, %d, not %q, %d", fmt.Sprint(l), a, got, err, want, wantErr)
			}
			if wantErr == api.OK {
				not++
			} else {
				over++
			}
		}
	}
	if over < 1000 || not < 1000 {
		t.Errorf("just %d are beyond 64 bits, and %d aren't", over, not)
	}
}

// P20.1: written out: the cells that rows are taken together by, and what each way makes of these, in order.
func TestGroupsWrittenOut(t *testing.T) {
	l := []api.Times{
		times(2, "tb", cell.Int(5), yes), times(1, "ta", cell.Int(1), no), times(3, "tb", cell.Int(-4), no),
		times(1, "tc", nothing, yes), times(1, "ta", cell.Int(9), no), times(4, "tb", nothing, yes),
	}
	all := []api.Agg{count, of(sum, 1), of(least, 1), of(greatest, 1)}
	groupsTo(t, l, []int{0}, all,
		times(1, "ta", cell.Int(2), cell.Int(10), cell.Int(1), cell.Int(9)),
		times(1, "tb", cell.Int(9), cell.Int(-2), cell.Int(-4), cell.Int(5)),
		times(1, "tc", cell.Int(1), nothing, nothing, nothing))
	groupsTo(t, l, []int{2}, all,
		times(1, no, cell.Int(5), cell.Int(-2), cell.Int(-4), cell.Int(9)),
		times(1, yes, cell.Int(7), cell.Int(10), cell.Int(5), cell.Int(5)))
	groupsTo(t, l, []int{2, 0}, []api.Agg{of(greatest, 0), of(sum, 1)},
		times(1, no, "ta", "ta", cell.Int(10)), times(1, no, "tb", "tb", cell.Int(-12)),
		times(1, yes, "tb", "tb", cell.Int(10)), times(1, yes, "tc", "tc", nothing))
	groupsTo(t, l, []int{0, 2}, []api.Agg{of(sum, 1)},
		times(1, "ta", no, cell.Int(10)), times(1, "tb", no, cell.Int(-12)), times(1, "tb", yes, cell.Int(10)), times(1, "tc", yes, nothing))
	// Nothing is a cell as others are, where rows are taken together by it.
	groupsTo(t, l, []int{1}, []api.Agg{count, of(least, 0), of(greatest, 0)},
		times(1, nothing, cell.Int(5), "tb", "tc"), times(1, cell.Int(-4), cell.Int(3), "tb", "tb"), times(1, cell.Int(1), cell.Int(1), "ta", "ta"),
		times(1, cell.Int(5), cell.Int(2), "tb", "tb"), times(1, cell.Int(9), cell.Int(1), "ta", "ta"))
}

// P20.1: the example: of no rows there is no group; nor is there one of rows that haven't the columns.
func TestGroupsOfNoRows(t *testing.T) {
	for _, by := range append(bys(), nil) {
		for _, aggs := range [][]api.Agg{nil, {}, {count}, ways()} {
			groupsTo(t, nil, by, aggs)
			groupsTo(t, []api.Times{}, by, aggs)
			groupsTo(t, few()[:0], by, aggs)
			if len(by) > 0 {
				groupsTo(t, []api.Times{times(1), times(5)}, by, aggs)
			}
		}
	}
}

// P20.1: by no columns all rows are one group, those without a cell too.
func TestGroupsByNothing(t *testing.T) {
	l := []api.Times{times(2, "tb", cell.Int(5)), times(1), times(3, nothing), times(1, "ta", cell.Int(-7))}
	for _, by := range [][]int{nil, {}} {
		groupsTo(t, l, by, []api.Agg{count, of(sum, 1), least, greatest, of(count, 7), of(sum, 7)}, times(1, cell.Int(7), cell.Int(3), "ta", "tb", cell.Int(7), nothing))
		groupsTo(t, l[1:2], by, []api.Agg{count, sum, least, greatest}, times(1, cell.Int(1), nothing, nothing, nothing))
		groupsTo(t, l, by, nil, times(1))
		groupsTo(t, l[1:2], by, []api.Agg{}, times(1))
	}
}

// P20.1: without a way it is the unlike cells alone, each once, however often they are there.
func TestGroupsWithoutWays(t *testing.T) {
	l := []api.Times{times(7, "tb", "tx"), times(1, "ta", "tx"), times(1<<20, "tb", "tx"), times(1, "tb", "ty"), times(2, nothing, "tx")}
	for _, aggs := range [][]api.Agg{nil, {}} {
		groupsTo(t, l, []int{0}, aggs, times(1, nothing), times(1, "ta"), times(1, "tb"))
		groupsTo(t, l, []int{1}, aggs, times(1, "tx"), times(1, "ty"))
		groupsTo(t, l, []int{1, 0}, aggs, times(1, "tx", nothing), times(1, "tx", "ta"), times(1, "tx", "tb"), times(1, "ty", "tb"))
	}
}

// P20.1: columns in any order, and more than once; ways in any order, and more than once.
func TestGroupsColumnsAndWaysAsTheyStand(t *testing.T) {
	l := []api.Times{times(1, "tb", cell.Int(1)), times(2, "ta", cell.Int(2)), times(4, "ta", cell.Int(1))}
	groupsTo(t, l, []int{0, 0}, []api.Agg{count}, times(1, "ta", "ta", cell.Int(6)), times(1, "tb", "tb", cell.Int(1)))
	groupsTo(t, l, []int{1, 0, 1}, nil, times(1, cell.Int(1), "ta", cell.Int(1)), times(1, cell.Int(1), "tb", cell.Int(1)), times(1, cell.Int(2), "ta", cell.Int(2)))
	groupsTo(t, l, []int{0}, []api.Agg{count, count, of(sum, 1), count}, times(1, "ta", cell.Int(6), cell.Int(6), cell.Int(8), cell.Int(6)), times(1, "tb", cell.Int(1), cell.Int(1), cell.Int(1), cell.Int(1)))
	for _, order := range listsOf([]api.Agg{count, of(sum, 1), of(least, 1), greatest}, 4) {
		a, b := row("ta"), row("tb")
		for _, way := range order {
			c, _ := valued(l[1:], way)
			d, _ := valued(l[:1], way)
			a, b = append(a, c), append(b, d)
		}
		groupsTo(t, l, []int{0}, order, times(1, a...), times(1, b...))
	}
}

// P20.1: rows that haven't one of the columns are left out, of what each way makes too.
func TestGroupsLeaveOut(t *testing.T) {
	l := []api.Times{times(1), times(2, "ta"), times(3, "ta", cell.Int(5)), times(4, "tb", cell.Int(6)), times(5, "ta", cell.Int(5), "tx"), times(6, nothing)}
	groupsTo(t, l, []int{0}, []api.Agg{count, of(sum, 1), of(greatest, 2)},
		times(1, nothing, cell.Int(6), nothing, nothing), times(1, "ta", cell.Int(10), cell.Int(40), "tx"), times(1, "tb", cell.Int(4), cell.Int(24), nothing))
	groupsTo(t, l, []int{1}, []api.Agg{count, of(sum, 1), least}, times(1, cell.Int(5), cell.Int(8), cell.Int(40), "ta"), times(1, cell.Int(6), cell.Int(4), cell.Int(24), "tb"))
	groupsTo(t, l, []int{2}, []api.Agg{count, of(sum, 1)}, times(1, "tx", cell.Int(5), cell.Int(25)))
	groupsTo(t, l, []int{0, 2}, []api.Agg{count}, times(1, "ta", "tx", cell.Int(5)))
	groupsTo(t, l, []int{2, 0}, []api.Agg{count}, times(1, "tx", "ta", cell.Int(5)))
	// One that is left out puts nothing beyond 64 bits.
	over := append(deep(l), times(1<<20, cell.Int(math.MaxInt)))
	groupsTo(t, over, []int{1}, []api.Agg{sum}, times(1, cell.Int(5), cell.Int(0)), times(1, cell.Int(6), cell.Int(0)))
	for _, col := range []int{3, 4, 100, 1 << 32, math.MaxInt, -1, -2, -3, -1 << 32, math.MinInt} {
		for _, by := range [][]int{{col}, {0, col}, {col, 0}, {0, col, 1}, {col, col}} {
			groupsTo(t, over, by, []api.Agg{count, sum})
		}
	}
	// Nor has a row what is in its spare room.
	spare := row("ta", "tb")
	groupsTo(t, []api.Times{{Row: spare[:1], N: 1}, {Row: spare, N: 2}}, []int{1}, []api.Agg{count}, times(1, "tb", cell.Int(2)))
}

// P20.1: cells side by side aren't one text.
func TestGroupsTellCellsApart(t *testing.T) {
	l := []api.Times{times(1, "ta", "tb"), times(2, "tat", "b"), times(3, "t", "atb"), times(4, "tb", "ta"), times(5, "tatb", nothing), times(6, nothing, "tatb"), times(7, string([]byte("ta")), "t"+string([]byte("b")))}
	groupsTo(t, l, []int{0, 1}, []api.Agg{count}, times(1, nothing, "tatb", cell.Int(6)), times(1, "t", "atb", cell.Int(3)), times(1, "ta", "tb", cell.Int(8)), times(1, "tat", "b", cell.Int(2)), times(1, "tatb", nothing, cell.Int(5)), times(1, "tb", "ta", cell.Int(4)))
	groupsTo(t, l, []int{1, 0}, []api.Agg{count}, times(1, nothing, "tatb", cell.Int(5)), times(1, "atb", "t", cell.Int(3)), times(1, "b", "tat", cell.Int(2)), times(1, "ta", "tb", cell.Int(4)), times(1, "tatb", nothing, cell.Int(6)), times(1, "tb", "ta", cell.Int(8)))
}

// P20.1: in order of the cells, of all kinds, however rows come; the first column counts most.
func TestGroupsInOrder(t *testing.T) {
	in := append([]string{nothing}, upward()...)
	var l, want, pairs []api.Times
	for i, c := range in {
		l = append(l, times(i+1, c))
		want = append(want, times(1, c, cell.Int(i+1)))
		for j, d := range in {
			pairs = append(pairs, times(1, c, d, cell.Int(100*i+j+1)))
		}
	}
	for range in {
		groupsTo(t, l, []int{0}, []api.Agg{count}, want...)
		slices.Reverse(l)
		groupsTo(t, l, []int{0}, []api.Agg{count}, want...)
		l = append(l[1:], l[0])
	}
	turned := make([]api.Times, len(pairs))
	for i, x := range pairs {
		// 7 doesn't divide how many there are, so that each has a place of its own.
		turned[i*7%len(pairs)] = times(cellNumber(x.Row[2]), x.Row[1], x.Row[0])
	}
	groupsTo(t, turned, []int{1, 0}, []api.Agg{count}, pairs...)
}

// cellNumber is the number that a cell is.
func cellNumber(c string) int { return int(numberOf(c).Int64()) }

// P20.1: each group's rows count as often as they are there.
func TestGroupsCountTimes(t *testing.T) {
	for _, n := range []int{1, 2, 1000, 1 << 20, 1<<31 - 1, 1 << 31, 1<<32 + 1, 1 << 53, most/4 - 1, most / 4} {
		l := []api.Times{times(n, "tb", cell.Int(2)), times(1, "ta", cell.Int(3)), times(n, "ta", cell.Int(-1)), times(n, "tb", cell.Int(-1)), times(n, "tc", cell.Int(-2))}
		groupsTo(t, l, []int{0}, []api.Agg{count, of(sum, 1)}, times(1, "ta", cell.Int(n+1), cell.Int(3-n)), times(1, "tb", cell.Int(2*(n-1)+2), cell.Int(n)), times(1, "tc", cell.Int(n), cell.Int(-2*n)))
	}
}

// P20.1: rows come in any order, and may stand more than once.
func TestGroupsOrderIsAllOne(t *testing.T) {
	l := []api.Times{times(2, "tb", cell.Int(math.MaxInt)), times(1, "ta", cell.Int(3)), times(1, "tb", cell.Int(math.MinInt)), times(1, "ta", cell.Int(3)), times(1, "tb", cell.Int(math.MinInt)), times(4, "ta", nothing)}
	for _, in := range ordersOf(l) {
		groupsTo(t, in, []int{0}, []api.Agg{count, of(sum, 1), of(least, 1), of(greatest, 1)},
			times(1, "ta", cell.Int(6), cell.Int(6), cell.Int(3), cell.Int(3)), times(1, "tb", cell.Int(4), cell.Int(-2), cell.Int(math.MinInt), cell.Int(math.MaxInt)))
	}
}

// P20.1: ErrOver of any group, and of any way, wherever it stands; no group is told then.
func TestGroupsOver(t *testing.T) {
	var l []api.Times
	var want []api.Times
	for i := range 7 {
		l = append(l, times(2, cell.Int(i), cell.Int(1<<61), cell.Int(7)))
		want = append(want, times(1, cell.Int(i), cell.Int(1<<62), cell.Int(14)))
	}
	all := []api.Agg{of(sum, 1), of(sum, 2)}
	groupsTo(t, l, []int{0}, all, want...)
	// All together are beyond 64 bits, but no group is.
	isOver(t, l, of(sum, 1))
	groupsOver(t, l, nil, all)
	groupsOver(t, l, []int{2}, all)
	for i := range l {
		for _, more := range []api.Times{times(1, cell.Int(i), cell.Int(1<<62)), times(1, cell.Int(i), cell.Int(math.MaxInt), nothing), times(1<<20, cell.Int(i), nothing, cell.Int(1<<43))} {
			over := append(deep(l), more)
			groupsOver(t, over, []int{0}, all)
			groupsOver(t, append([]api.Times{more}, l...), []int{0}, all)
			groupsTo(t, over, []int{0}, nil, times(1, cell.Int(0)), times(1, cell.Int(1)), times(1, cell.Int(2)), times(1, cell.Int(3)), times(1, cell.Int(4)), times(1, cell.Int(5)), times(1, cell.Int(6)))
			for _, ways := range [][]api.Agg{{count}, {of(least, 1), of(greatest, 2)}, {of(least, 2), of(greatest, 1)}, {of(sum, 3), sum}} {
				if got, err := Groups(over, []int{0}, ways); len(got) != len(l) || err != api.OK {
					t.Errorf("Groups(%q, %v) = %q, %d", fmt.Sprint(over), ways, fmt.Sprint(got), err)
				}
			}
		}
	}
	// Of many ways the one that is beyond may stand anywhere.
	one := []api.Times{times(2, cell.Int(1<<62))}
	for i := range 6 {
		ways := []api.Agg{count, least, greatest, of(sum, 1), of(sum, -1)}
		groupsOver(t, one, []int{0}, slices.Insert(ways, min(i, len(ways)), sum))
		groupsTo(t, one, []int{0}, ways, times(1, cell.Int(1<<62), cell.Int(2), cell.Int(1<<62), cell.Int(1<<62), nothing, nothing))
	}
}

// P20.1: all short lists, by each choice of columns, in each way, alone and beside others.
func TestGroupsOfShortLists(t *testing.T) {
	each := [][]api.Agg{nil, {count, of(least, 1), of(greatest, 0)}, {of(sum, 1)}, {of(greatest, 1), of(sum, 1), count}, {of(least, 0), of(sum, 2)}}
	rows, over := 0, 0
	for _, l := range listsOf(few(), 4) {
		for _, by := range bys() {
			for _, aggs := range each {
				want, wantErr := grouped(l, by, aggs)
				got, err := Groups(l, by, aggs)
				if !same(got, want) || err != wantErr {
					t.Fatalf("Groups(%q, %v, %v) = %q, %d, not %q, %d", fmt.Sprint(l), by, aggs, fmt.Sprint(got), err, fmt.Sprint(want), wantErr)
				}
				rows += len(got)
				over += int(err)
			}
		}
	}
	if rows < 1000 || over < 1000 {
		t.Errorf("just %d rows, and %d", rows, over)
	}
}

// P20.1: longer lists, by one, two and three columns.
func TestGroupsOfLongerLists(t *testing.T) {
	var l []api.Times
	for i := range 500 {
		l = append(l, times(i%7+1, cell.Int(i*37%11), cell.Text(strconv.Itoa(i*i%5)), cell.Int((i*7919%1000-500)*(1<<44)), cell.Bool(i%3 == 0)))
		if i%9 == 0 {
			l[i].Row[i%4] = nothing
		}
		l[i].Row = l[i].Row[:4-i%13/11]
	}
	for _, by := range listsOf([]int{0, 1, 3}, 3) {
		for from := 0; from < 500; from += 125 {
			aggs := []api.Agg{count, of(sum, 2), of(least, 2), of(greatest, 1), of(sum, 1)}
			want, err := grouped(l[from:], by, aggs)
			if err != api.OK {
				t.Fatal("a sum is beyond 64 bits")
			}
			groupsTo(t, l[from:], by, aggs, want...)
		}
	}
}

// P20.1: each group is what the rows come to that have its cells.
func TestGroupsAreValuesOfTheirRows(t *testing.T) {
	var l []api.Times
	for i := range 60 {
		l = append(l, times(i%3+1, cell.Int(i%4), cell.Text(strconv.Itoa(i%5)), cell.Int(i*i-900)))
	}
	aggs := []api.Agg{of(greatest, 2), of(sum, 2), count, of(least, 2), of(sum, 0)}
	groups, err := Groups(l, []int{1, 0}, aggs)
	if err != api.OK || len(groups) != 20 {
		t.Fatalf("%d groups, %d", len(groups), err)
	}
	for _, g := range groups {
		rows := sieve.Filter(l, api.Term{Op: '&', Kids: []api.Term{isCell(1, g.Row[0]), isCell(0, g.Row[1])}})
		for i, a := range aggs {
			comesTo(t, g.Row[2+i], rows, a)
		}
	}
	// Their cells are those that all rows have there, each once.
	keys := sieve.Project(l, []int{1, 0})
	for i := range keys {
		keys[i].N = 1
	}
	groupsTo(t, l, []int{1, 0}, nil, keys...)
}

// isCell is the condition that a column has this cell.
func isCell(col int, c string) api.Term {
	return api.Term{Op: '=', Kids: []api.Term{{Op: 'c', Col: col}, {Op: 'k', Cell: c}}}
}

// summed is all numbers of one column of groups together; nothing adds none.
func summed(t *testing.T, groups []api.Times, col int) api.Wide {
	t.Helper()
	var all api.Wide
	for _, g := range groups {
		n, is := cell.Num(g.Row[col])
		if !is && g.Row[col] != nothing || g.N != 1 {
			t.Errorf("a group of %q", fmt.Sprint(g))
		}
		all = wide.Sum(all, wide.Of(n))
	}
	return all
}

// P20.2: counts and sums of groups, summed, are those of all.
func TestOfGroupsSummedIsOfAll(t *testing.T) {
	rows := []api.Times{times(2, "ta", cell.Int(5), yes), times(1, "ta", cell.Int(-7), no), times(3, "tb", nothing, yes), times(1, "tb", cell.Int(math.MaxInt), yes), times(1, nothing, cell.Int(math.MinInt), yes), times(1, "ta", cell.Int(5), no), times(1<<20, "tc", "t3", nothing), times(1, "tc", cell.Int(math.MaxInt), yes)}
	over, not := 0, 0
	for _, l := range listsOf(rows, 4) {
		for _, by := range listsOf([]int{0, 1, 2}, 2) {
			groups, err := Groups(l, by, []api.Agg{count, of(sum, 1)})
			if err != api.OK {
				over++
				continue
			}
			not++
			for i, a := range []api.Agg{count, of(sum, 1)} {
				all, err := wide.Int(summed(t, groups, len(by)+i))
				want := cell.Int(all)
				if i == 1 && !slices.ContainsFunc(l, func(x api.Times) bool { return x.Row[1] != nothing }) {
					want = nothing
				}
				if err != api.OK {
					isOver(t, l, a)
				} else {
					comesTo(t, want, l, a)
				}
			}
		}
	}
	if over < 1000 || not < 1000 {
		t.Errorf("just %d are beyond 64 bits, and %d aren't", over, not)
	}
}

// P20.2: groups, taken together by fewer of the columns, are those of all rows by these; of the least and the greatest as well.
func TestGroupsOfGroups(t *testing.T) {
	var l []api.Times
	for i := range 300 {
		l = append(l, times(i%4+1, cell.Int(i%3), cell.Int(i*i%7), cell.Int(i%2), cell.Int((i*73%101-50)*(1<<50))))
	}
	finer := []api.Agg{count, of(sum, 3), of(least, 3), of(greatest, 3)}
	byThree, _ := Groups(l, []int{0, 1, 2}, finer)
	again := []api.Agg{of(sum, 3), of(sum, 4), of(least, 5), of(greatest, 6)}
	for _, by := range listsOf([]int{0, 1, 2}, 3) {
		want, err := Groups(l, by, finer)
		if err != api.OK || len(byThree) != 24 {
			t.Fatalf("%d groups, %d", len(byThree), err)
		}
		groupsTo(t, byThree, by, again, want...)
	}
}

// P20.2: however rows are split in two lists, counts and sums of both, summed, are those of all.
func TestOfPartsSummedIsOfAll(t *testing.T) {
	l := []api.Times{times(2, "ta", cell.Int(5)), times(1, "ta", cell.Int(-70)), times(3, "tb", nothing), times(1, "tb", cell.Int(1<<50)), times(9, nothing, cell.Int(-1<<58)), times(1, "tc", cell.Int(5)), times(7)}
	for parts := range 1 << len(l) {
		var some, others []api.Times
		for i, x := range l {
			if parts>>i&1 == 1 {
				some = append(some, x)
			} else {
				others = append(others, x)
			}
		}
		for _, a := range []api.Agg{count, of(sum, 1)} {
			c, _ := Value(some, a)
			d, _ := Value(others, a)
			comesTo(t, cell.Int(cellNumber(c)+cellNumber(d)), l, a)
		}
	}
}

// P20.2: a row that is there so often is so many rows.
func TestSoOftenIsSoManyRows(t *testing.T) {
	l := []api.Times{times(2, "ta", cell.Int(5)), times(5, "ta", cell.Int(-70)), times(3, "tb", nothing), times(4, "tb", cell.Int(1<<50))}
	var each []api.Times
	for _, x := range l {
		each = append(each, slices.Repeat([]api.Times{times(1, x.Row...)}, x.N)...)
	}
	for _, by := range bys() {
		for _, aggs := range [][]api.Agg{{count, of(sum, 1)}, {of(least, 1), of(greatest, 0), count}} {
			want, _ := Groups(l, by, aggs)
			groupsTo(t, each, by, aggs, want...)
			groupsTo(t, weigh.Of(each), by, aggs, want...)
		}
	}
}

// Of a table joined with itself: how many rows each cell makes.
func TestGroupsOfRowsJoined(t *testing.T) {
	l := []api.Times{times(2, "ta", cell.Int(5)), times(3, "ta", cell.Int(7)), times(1, "tb", cell.Int(1))}
	groupsTo(t, pair.Join(l, l, [][2]int{{0, 0}}), []int{0}, []api.Agg{count, of(sum, 3)}, times(1, "ta", cell.Int(25), cell.Int(5*(10+21))), times(1, "tb", cell.Int(1), cell.Int(1)))
}

// Very many rows: each a group of its own, in a few groups, and in one.
func TestVeryManyRows(t *testing.T) {
	const many = 1 << 17
	var l []api.Times
	for i := range many {
		l = append(l, times(2, cell.Int(i*54321%many), cell.Int(i%3), cell.Int(math.MaxInt/many/2)))
	}
	got, err := Groups(l, []int{0}, []api.Agg{count, least})
	if len(got) != many || err != api.OK {
		t.Fatalf("%d groups, %d", len(got), err)
	}
	for i, g := range got {
		if g.N != 1 || !slices.Equal(g.Row, row(cell.Int(i), cell.Int(2), cell.Int(i))) {
			t.Fatalf("group %d is %q", i, fmt.Sprint(g))
		}
	}
	groupsTo(t, l, nil, []api.Agg{count, sum, of(sum, 2)}, times(1, cell.Int(2*many), cell.Int(many*(many-1)), cell.Int(math.MaxInt/many/2*many*2)))
	want, _ := grouped(l, []int{1}, []api.Agg{count, sum, least, greatest})
	groupsTo(t, l, []int{1}, []api.Agg{count, sum, least, greatest}, want...)
	isOver(t, append(l, times(1, "ta", "tb", cell.Int(math.MaxInt/2))), of(sum, 2))
}

// Very many columns, and very many ways.
func TestVeryManyColumns(t *testing.T) {
	const many = 1 << 16
	by, aggs, full := make([]int, many), make([]api.Agg, many), make([]string, many)
	for i := range many {
		by[i], aggs[i], full[i] = many-1-i, of(sum, i), cell.Int(i)
	}
	turned := slices.Clone(full)
	slices.Reverse(turned)
	l := []api.Times{{Row: full, N: 1}, {Row: full[1:], N: 7}}
	groupsTo(t, l, by, aggs, times(1, slices.Concat(turned, full)...))
	// The last column alone tells them apart.
	other := slices.Clone(full)
	other[0] = cell.Int(-1)
	groupsTo(t, append(l, api.Times{Row: other, N: 2}), by, []api.Agg{count}, times(1, append(slices.Clone(turned[:many-1]), cell.Int(-1), cell.Int(2))...), times(1, append(slices.Clone(turned), cell.Int(1))...))
	by[many-1] = many
	groupsTo(t, l, by, aggs)
	groupsTo(t, column("ta", "tb", "ta"), make([]int, many), nil, times(1, slices.Repeat(row("ta"), many)...), times(1, slices.Repeat(row("tb"), many)...))
}

// Wrong lists, columns and ways: a call ends, whatever it is given.
func TestWhateverIsGiven(t *testing.T) {
	l := append(few(), times(0, "ta"), times(-1, "tb", cell.Int(3)), times(math.MaxInt, "ta", cell.Int(math.MaxInt)), times(math.MaxInt, "ta", cell.Int(math.MinInt)), times(math.MinInt, "tb", cell.Int(math.MinInt)), times(math.MinInt, "x", "x"), api.Times{}, times(1, strings.Repeat("x", 1<<16)), times(1, make([]string, 1<<10)...))
	for _, in := range [][]api.Times{nil, l, make([]api.Times, 300), column(make([]string, 300)...), {times(math.MaxInt), times(math.MaxInt)}, {times(math.MinInt), times(-1)}} {
		for _, a := range ways() {
			Value(in, a)
			for _, by := range append(bys(), nil, []int{math.MinInt, 0, math.MaxInt}, make([]int, 100)) {
				Groups(in, by, []api.Agg{a, {}, a})
				Groups(in, by, make([]api.Agg, 100))
			}
		}
	}
}

// given are rows, columns and ways, with spare room in, and behind.
func given() ([]api.Times, []int, []api.Agg) {
	l := []api.Times{times(2, "tb", cell.Int(5), "spare"), times(1, "ta", cell.Int(-7), "spare"), times(3, "tb", nothing, "spare"), times(1, "tc", cell.Int(1), "spare"), times(1, "ta", cell.Int(8), "spare"), times(9, "spare"), times(8, "spare")}
	for i := range 5 {
		l[i].Row = l[i].Row[:2]
	}
	return l[:5], []int{0, 1, 77}[:1], []api.Agg{count, of(sum, 1), of(least, 1), of(greatest, 0), {Way: 9, Col: 9}}[:4]
}

// answers are what Groups answers of them, each way.
func answers(l []api.Times, by []int, aggs []api.Agg) [][]api.Times {
	var all [][]api.Times
	for _, columns := range [][]int{by, nil, {1}, {1, 0}, {0, 0}} {
		for _, ways := range [][]api.Agg{aggs, nil, aggs[:1]} {
			for _, rows := range [][]api.Times{l, l[1:], l[:1]} {
				groups, _ := Groups(rows, columns, ways)
				all = append(all, groups)
			}
		}
	}
	return all
}

// changeAll changes each row of a list, its spare room too.
func changeAll(l []api.Times) {
	for i := range l {
		all := l[i].Row[:cap(l[i].Row)]
		for j := range all {
			all[j] = "changed"
		}
		l[i] = times(-99, "changed")
	}
}

// asIs is a text that has all of a list, its spare room too.
func asIs(l []api.Times) string {
	var b strings.Builder
	for _, x := range l[:cap(l)] {
		b.WriteString(fmt.Sprintf("%d %q %d; ", x.N, x.Row[:cap(x.Row)], len(x.Row)))
	}
	return b.String()
}

// What is handed in isn't changed, its spare room neither, and answers are new memory.
func TestNothingIsChangedOrShared(t *testing.T) {
	l, by, aggs := given()
	was, columns, ways := asIs(l), slices.Clone(by[:3]), slices.Clone(aggs[:5])
	want := answers(given())
	for range 2 {
		got := answers(l, by, aggs)
		for i := range got {
			if len(got[i]) == 0 || !same(got[i], want[i]) {
				t.Fatalf("answer %d is %q, not %q", i, fmt.Sprint(got[i]), fmt.Sprint(want[i]))
			}
			changeAll(got[i])
			_ = append(got[i], times(-99, "more"))
		}
		Value(l, aggs[1])
		if asIs(l) != was || !slices.Equal(by[:3], columns) || !slices.Equal(aggs[:5], ways) {
			t.Fatalf("%s, %v, %v", asIs(l), by[:3], aggs[:5])
		}
	}
	got := answers(l, by, aggs)
	changeAll(l)
	by[0], aggs[0], aggs[1] = 5, api.Agg{}, api.Agg{}
	for i := range got {
		if !same(got[i], want[i]) {
			t.Fatalf("answer %d hangs on what was handed in: %q", i, fmt.Sprint(got[i]))
		}
	}
}

// No two rows of an answer share cells, their spare room neither.
func TestRowsOfAnAnswerShareNothing(t *testing.T) {
	l, by, aggs := given()
	for i, got := range answers(l, by, aggs) {
		for changed := range got {
			was := deep(got)
			changeAll(got[changed : changed+1])
			was[changed] = got[changed]
			if !same(got, was) {
				t.Errorf("row %d of answer %d changed others: %q", changed, i, fmt.Sprint(got))
			}
		}
	}
}

// Nothing is kept from call to call: what was asked ahead is all one.
func TestNothingIsKept(t *testing.T) {
	l, by, aggs := given()
	want := answers(given())
	for _, other := range bys() {
		for _, a := range ways() {
			Groups(few(), other, []api.Agg{a})
			Value(few(), a)
			if !slices.EqualFunc(answers(l, by, aggs), want, same) {
				t.Fatalf("behind a call by %v and %v answers are others", other, a)
			}
		}
	}
}

// Any number of goroutines may call at once, of the same rows too.
func TestAtOnce(t *testing.T) {
	l, by, aggs := given()
	want := answers(given())
	var all sync.WaitGroup
	for range 8 {
		all.Go(func() {
			for range 100 {
				c, _ := Value(l, of(sum, 1))
				if !slices.EqualFunc(answers(l, by, aggs), want, same) || c != cell.Int(12) {
					t.Error("calls at once aren't as one alone")
				}
			}
		})
	}
	all.Wait()
}
