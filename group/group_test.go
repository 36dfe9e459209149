package group

import (
	"encoding/binary"
	"fmt"
	"maps"
	"math"
	"math/big"
	"slices"
	"strconv"
	"strings"
	"sync"
	"testing"

	"distiller/api"
	"distiller/cell"
	"distiller/fold"
	"distiller/pair"
	"distiller/sieve"
	"distiller/weigh"
	"distiller/wide"
)

const (
	yes     = "b\x01"
	no      = "b\x00"
	nothing = ""
	// most is how often rows may be there together.
	most = 1 << 62
)

// How rows are taken together, of the first column where it isn't named.
var (
	count    = api.Agg{Way: api.AggCount}
	sumOf    = api.Agg{Way: api.AggSum}
	least    = api.Agg{Way: api.AggMin}
	greatest = api.Agg{Way: api.AggMax}
)

// of is the way, of another column.
func of(a api.Agg, col int) api.Agg {
	return api.Agg{Way: a.Way, Col: col}
}

// ofSecond are all four ways, of the second column.
func ofSecond() []api.Agg {
	return []api.Agg{count, of(sumOf, 1), of(least, 1), of(greatest, 1)}
}

// row is a row of these cells.
func row(cells ...string) []string { return cells }

// times is a row of these cells, so often.
func times(n int, cells ...string) api.Times {
	return api.Times{Row: cells, N: n}
}

// column is a row of each of these cells, once.
func column(cells ...string) []api.Times {
	var l []api.Times
	for _, c := range cells {
		l = append(l, times(1, c))
	}
	return l
}

// same tells whether two lists have the same rows, as often, as they stand.
func same(a, b []api.Times) bool {
	return slices.EqualFunc(a, b, func(x, y api.Times) bool { return x.N == y.N && slices.Equal(x.Row, y.Row) })
}

// samePart tells whether two Parts have the same.
func samePart(p, q api.Part) bool {
	return p.N == q.N && p.Sum == q.Sum && same(p.Cells, q.Cells)
}

// sameGroup tells whether two groups have the same.
func sameGroup(g, h api.Group) bool {
	return g.N == h.N && slices.Equal(g.Key, h.Key) && slices.EqualFunc(g.Parts, h.Parts, samePart)
}

// sameGroups tells whether two lists have the same groups, as they stand.
func sameGroups(a, b []api.Group) bool {
	return slices.EqualFunc(a, b, sameGroup)
}

// minus are the rows, the other way round.
func minus(l ...api.Times) []api.Times {
	var other []api.Times
	for _, x := range l {
		other = append(other, times(-x.N, x.Row...))
	}
	return other
}

// listsOf are all lists of up to most of these.
func listsOf[T any](these []T, most int) [][]T {
	var l [][]T
	var all func(ahead []T)
	all = func(ahead []T) {
		l = append(l, ahead)
		if len(ahead) == most {
			return
		}
		for _, x := range these {
			all(append(slices.Clip(ahead), x))
		}
	}
	all(nil)
	return l
}

// ordersOf are all orders of these.
func ordersOf[T any](these []T) [][]T {
	if len(these) == 0 {
		return [][]T{nil}
	}
	var l [][]T
	for i, x := range these {
		for _, others := range ordersOf(slices.Concat(these[:i], these[i+1:])) {
			l = append(l, append([]T{x}, others...))
		}
	}
	return l
}

// named is a text by which cells are told apart: each behind how long it is.
func named(cells []string) string {
	var b strings.Builder
	for _, c := range cells {
		b.WriteString(strconv.Itoa(len(c)) + ":" + c)
	}
	return b.String()
}

// order is which cells stand ahead: by the first that is unlike; the shorter ones, if there is none.
func order(a, b []string) int {
	for i := range min(len(a), len(b)) {
		if a[i] < b[i] {
			return -1
		}
		if a[i] > b[i] {
			return 1
		}
	}
	return len(a) - len(b)
}

// numberOf is the number that a cell is, 0 of any other: i, and its bits, the highest one turned.
func numberOf(c string) *big.Int {
	if len(c) != 9 || c[0] != 'i' {
		return new(big.Int)
	}
	return big.NewInt(int64(binary.BigEndian.Uint64([]byte(c[1:])) ^ 1<<63))
}

// wideOf is a number without ends in 128 bits.
func wideOf(n *big.Int) api.Wide {
	low := new(big.Int).And(n, new(big.Int).SetUint64(math.MaxUint64))
	high := new(big.Int).Rsh(n, 64)
	return api.Wide{High: int(high.Int64()), Low: low.Uint64()}
}

// picked are the row's cells in these columns, and whether it has each.
func picked(row []string, by []int) ([]string, bool) {
	var cells []string
	for _, col := range by {
		if col < 0 || col >= len(row) {
			return nil, false
		}
		cells = append(cells, row[col])
	}
	return cells, true
}

// byName are groups as the chapter's words make them: of each Key all rows that were Put into its group, by the Key's name.
type byName struct {
	keys map[string][]string
	rows map[string][]api.Times
}

// noGroups is where there are none.
func noGroups() byName {
	return byName{map[string][]string{}, map[string][]api.Times{}}
}

// change is what Change is to do, and the Keys of the groups that rows were Put into.
func (m byName) change(by []int, more []api.Times) map[string]bool {
	touched := map[string]bool{}
	for _, x := range more {
		if key, has := picked(x.Row, by); has {
			name := named(key)
			m.keys[name], m.rows[name], touched[name] = key, append(slices.Clip(m.rows[name]), x), true
		}
	}
	for name, rows := range m.rows {
		n := 0
		for _, x := range rows {
			n += x.N
		}
		if n == 0 {
			delete(m.rows, name)
			delete(m.keys, name)
		}
	}
	return touched
}

// copied is the same again.
func (m byName) copied() byName {
	return byName{maps.Clone(m.keys), maps.Clone(m.rows)}
}

// group is the group of that name, by the chapter's words.
func (m byName) group(name string, aggs []api.Agg) api.Group {
	g := api.Group{Key: m.keys[name]}
	for _, x := range m.rows[name] {
		g.N += x.N
	}
	for _, a := range aggs {
		g.Parts = append(g.Parts, partOf(m.rows[name], a))
	}
	return g
}

// groups are all of them, in order.
func (m byName) groups(aggs []api.Agg) []api.Group {
	var l []api.Group
	for name := range m.rows {
		l = append(l, m.group(name, aggs))
	}
	slices.SortFunc(l, func(g, h api.Group) int { return order(g.Key, h.Key) })
	return l
}

// partOf is the Part of rows, by numbers without ends, and a map of cells.
func partOf(rows []api.Times, a api.Agg) api.Part {
	var p api.Part
	if a.Way == 1 {
		return p
	}
	total, cells := new(big.Int), map[string]int{}
	for _, x := range rows {
		if a.Col < 0 || a.Col >= len(x.Row) || x.Row[a.Col] == "" {
			continue
		}
		p.N += x.N
		cells[x.Row[a.Col]] += x.N
		total.Add(total, new(big.Int).Mul(big.NewInt(int64(x.N)), numberOf(x.Row[a.Col])))
	}
	if a.Way == 3 || a.Way == 4 {
		for _, c := range slices.Sorted(maps.Keys(cells)) {
			if cells[c] != 0 {
				p.Cells = append(p.Cells, times(cells[c], c))
			}
		}
		return p
	}
	p.Sum = wideOf(total)
	return p
}

// numberCell is the cell of a number without ends; ErrOver beyond 64 bits.
func numberCell(n *big.Int) (string, api.Errno) {
	if !n.IsInt64() {
		return "", api.ErrOver
	}
	return "i" + string(binary.BigEndian.AppendUint64(nil, uint64(n.Int64())^1<<63)), api.OK
}

// bigOf is a number of 128 bits as one without ends.
func bigOf(w api.Wide) *big.Int {
	n := new(big.Int).Lsh(big.NewInt(int64(w.High)), 64)
	return n.Add(n, new(big.Int).SetUint64(w.Low))
}

// rowOf is what Row is to be.
func rowOf(g api.Group, aggs []api.Agg) ([]string, api.Errno) {
	cells := slices.Clone(g.Key)
	for i, p := range g.Parts {
		if i == len(aggs) {
			break
		}
		c, err := nothing, api.OK
		switch way := aggs[i].Way; {
		case way == 1:
			c, err = numberCell(big.NewInt(int64(g.N)))
		case p.N == 0:
		case way == 3 || way == 4:
			if len(p.Cells) > 0 {
				c = p.Cells[(len(p.Cells)-1)*(way-3)].Row[0]
			}
		default:
			c, err = numberCell(bigOf(p.Sum))
		}
		if err != api.OK {
			return nil, err
		}
		cells = append(cells, c)
	}
	return cells, api.OK
}

// toldOf are the view's rows that are to be told of the touched groups, each out of what was and what is.
func toldOf(was, is byName, touched map[string]bool, aggs []api.Agg) ([]api.Times, api.Errno) {
	var l []api.Times
	for name := range touched {
		var ahead, behind []string
		_, there := was.rows[name]
		if there {
			cells, err := rowOf(was.group(name, aggs), aggs)
			if err != api.OK {
				return nil, err
			}
			ahead = cells
		}
		_, still := is.rows[name]
		if still {
			cells, err := rowOf(is.group(name, aggs), aggs)
			if err != api.OK {
				return nil, err
			}
			behind = cells
		}
		if there && still && slices.Equal(ahead, behind) {
			continue
		}
		if there {
			l = append(l, times(-1, ahead...))
		}
		if still {
			l = append(l, times(1, behind...))
		}
	}
	slices.SortFunc(l, func(x, y api.Times) int { return order(x.Row, y.Row) })
	return l, api.OK
}

// sumPart is a Part of so many cells with that sum.
func sumPart(n int, sum api.Wide) api.Part { return api.Part{N: n, Sum: sum} }

// cellPart is a Part of these cells.
func cellPart(cells ...api.Times) api.Part {
	p := api.Part{Cells: cells}
	for _, x := range cells {
		p.N += x.N
	}
	return p
}

// putsTo asks Put.
func putsTo(t *testing.T, g api.Group, aggs []api.Agg, x api.Times, want api.Group) api.Group {
	t.Helper()
	got := Put(g, aggs, x)
	if !sameGroup(got, want) {
		t.Errorf("Put(%.300q, %v, %.300q) = %.300q, not %.300q", fmt.Sprint(g), aggs, fmt.Sprint(x), fmt.Sprint(got), fmt.Sprint(want))
	}
	return got
}

// rowIs asks Row, where no sum is beyond 64 bits.
func rowIs(t *testing.T, g api.Group, aggs []api.Agg, want ...string) {
	t.Helper()
	if got, err := Row(g, aggs); !slices.Equal(got, want) || err != api.OK {
		t.Errorf("Row(%.300q, %v) = %.300q, %d, not %.300q", fmt.Sprint(g), aggs, got, err, want)
	}
}

// rowOver asks Row, where a sum is beyond 64 bits.
func rowOver(t *testing.T, g api.Group, aggs []api.Agg) {
	t.Helper()
	if got, err := Row(g, aggs); len(got) != 0 || err != api.ErrOver {
		t.Errorf("Row(%.300q, %v) = %.300q, %d, not ErrOver", fmt.Sprint(g), aggs, got, err)
	}
}

// foundAt asks Find.
func foundAt(t *testing.T, l []api.Group, key []string, place int, there bool) {
	t.Helper()
	if got, is := Find(l, key); got != place || is != there {
		t.Errorf("Find(%.300q, %q) = %d, %t, not %d, %t", fmt.Sprint(l), key, got, is, place, there)
	}
}

// changed asks Change, and of its answer how many Keys, and the view's rows.
func changed(t *testing.T, l []api.Group, by []int, aggs []api.Agg, more []api.Times, keys int, told ...api.Times) []api.Group {
	t.Helper()
	groups, rows, n, err := Change(l, by, aggs, more)
	if !same(rows, told) || n != keys || err != api.OK {
		t.Errorf("Change(%.300q, %v, %v, %.300q) tells %.500q, %d, %d, not %.500q, %d", fmt.Sprint(l), by, aggs, fmt.Sprint(more), fmt.Sprint(rows), n, err, fmt.Sprint(told), keys)
	}
	return groups
}

// changeOver asks Change, where a sum is beyond 64 bits.
func changeOver(t *testing.T, l []api.Group, by []int, aggs []api.Agg, more []api.Times) {
	t.Helper()
	groups, rows, n, err := Change(l, by, aggs, more)
	if !sameGroups(groups, l) || len(rows) != 0 || n != 0 || err != api.ErrOver {
		t.Errorf("Change(%.300q, %v, %v, %.300q) = %.300q, %.300q, %d, %d, not ErrOver", fmt.Sprint(l), by, aggs, fmt.Sprint(more), fmt.Sprint(groups), fmt.Sprint(rows), n, err)
	}
}

// P21.1: Put, written out: a group without Parts, more of it, what goes, nothing.
func TestPutWrittenOut(t *testing.T) {
	aggs, key := ofSecond(), row("ta")
	g := putsTo(t, api.Group{Key: key}, aggs, times(2, "ta", cell.Int(5)), api.Group{Key: key, N: 2, Parts: []api.Part{{}, sumPart(2, wide.Of(10)), cellPart(times(2, cell.Int(5))), cellPart(times(2, cell.Int(5)))}})
	cells := cellPart(times(3, cell.Int(-4)), times(2, cell.Int(5)))
	g = putsTo(t, g, aggs, times(3, "ta", cell.Int(-4)), api.Group{Key: key, N: 5, Parts: []api.Part{{}, sumPart(5, wide.Of(-2)), cells, cells}})
	cells = cellPart(times(3, cell.Int(-4)), times(2, cell.Int(5)), times(1, cell.Int(6)))
	g = putsTo(t, g, aggs, times(1, "ta", cell.Int(6)), api.Group{Key: key, N: 6, Parts: []api.Part{{}, sumPart(6, wide.Of(4)), cells, cells}})
	// Nothing doesn't count, but its row does.
	g = putsTo(t, g, aggs, times(4, "ta", nothing), api.Group{Key: key, N: 10, Parts: []api.Part{{}, sumPart(6, wide.Of(4)), cells, cells}})
	cells = cellPart(times(3, cell.Int(-4)), times(1, cell.Int(5)), times(1, cell.Int(6)))
	g = putsTo(t, g, aggs, times(-1, "ta", cell.Int(5)), api.Group{Key: key, N: 9, Parts: []api.Part{{}, sumPart(5, wide.Of(-1)), cells, cells}})
	cells = cellPart(times(3, cell.Int(-4)), times(1, cell.Int(6)))
	g = putsTo(t, g, aggs, times(-1, "ta", cell.Int(5)), api.Group{Key: key, N: 8, Parts: []api.Part{{}, sumPart(4, wide.Of(-6)), cells, cells}})
	cells = cellPart(times(1, cell.Int(6)))
	g = putsTo(t, g, aggs, times(-3, "ta", cell.Int(-4)), api.Group{Key: key, N: 5, Parts: []api.Part{{}, sumPart(1, wide.Of(6)), cells, cells}})
	g = putsTo(t, g, aggs, times(-4, "ta", nothing), api.Group{Key: key, N: 1, Parts: []api.Part{{}, sumPart(1, wide.Of(6)), cells, cells}})
	// What there is none of is a group still: that it goes is for Change.
	putsTo(t, g, aggs, times(-1, "ta", cell.Int(6)), api.Group{Key: key, Parts: make([]api.Part, 4)})
}

// P21.1: Put asks the ways' columns alone: the row's Key is all one, and so is a group's.
func TestPutAsksNoKey(t *testing.T) {
	for _, key := range [][]string{nil, {}, {nothing}, {"ta"}, {"tb", cell.Int(4)}, {"no cell"}} {
		putsTo(t, api.Group{Key: key}, []api.Agg{sumOf}, times(3, cell.Int(4), "tx"), api.Group{Key: key, N: 3, Parts: []api.Part{sumPart(3, wide.Of(12))}})
		putsTo(t, api.Group{Key: key, N: 9}, nil, times(3, cell.Int(4), "tx"), api.Group{Key: key, N: 12})
		putsTo(t, api.Group{Key: key, N: 9}, nil, times(-10), api.Group{Key: key, N: -1})
	}
}

// P21.1: Put where a Part isn't there yet: it is zero; where there are more than ways, those aren't any way's.
func TestPutWhereParts(t *testing.T) {
	full := []api.Part{{}, sumPart(4, wide.Of(30)), cellPart(times(1, "ta"), times(2, "tb")), cellPart(times(7, cell.Int(1)))}
	aggs := []api.Agg{count, of(sumOf, 1), least, of(greatest, 1)}
	now := []api.Part{{}, sumPart(6, wide.Of(44)), cellPart(times(1, "ta"), times(4, "tb")), cellPart(times(7, cell.Int(1)), times(2, cell.Int(7)))}
	anew := []api.Part{{}, sumPart(2, wide.Of(14)), cellPart(times(2, "tb")), cellPart(times(2, cell.Int(7)))}
	for ways := range len(aggs) + 1 {
		for parts := range len(full) + 1 {
			want := slices.Clone(anew[:ways])
			copy(want, now[:min(ways, parts)])
			putsTo(t, api.Group{Key: row("tk"), N: 10, Parts: full[:parts:parts]}, aggs[:ways], times(2, "tb", cell.Int(7)), api.Group{Key: row("tk"), N: 12, Parts: want})
			// What stands in spare room isn't there.
			putsTo(t, api.Group{Key: row("tk"), N: 10, Parts: full[:parts]}, aggs[:ways], times(2, "tb", cell.Int(7)), api.Group{Key: row("tk"), N: 12, Parts: want})
		}
	}
}

// P21.1: a Part has just what its way has: fields that it gives no meaning are zero.
func TestPutHasNothingElse(t *testing.T) {
	raw := api.Part{N: 3, Sum: wide.Of(8), Cells: []api.Times{times(3, cell.Int(2))}}
	for _, x := range []struct {
		a    api.Agg
		want api.Part
	}{
		{count, api.Part{}},
		{sumOf, sumPart(4, wide.Of(10))},
		{least, cellPart(times(4, cell.Int(2)))},
		{greatest, cellPart(times(4, cell.Int(2)))},
	} {
		putsTo(t, api.Group{N: 1, Parts: []api.Part{raw}}, []api.Agg{x.a}, times(1, cell.Int(2)), api.Group{N: 2, Parts: []api.Part{x.want}})
	}
}

// P21.1: which cells count: texts and yes and no, but 0 each; nothing, and a column that the row hasn't, don't.
func TestPutCells(t *testing.T) {
	aggs := []api.Agg{sumOf, least, greatest}
	for _, c := range []string{cell.Int(0), cell.Int(1), cell.Int(-1), cell.Int(math.MaxInt), cell.Int(math.MinInt), yes, no, "t", "ta", cell.Text(cell.Int(5)), "i", "i1234567", "i123456789", "x", "\x00", strings.Repeat("i", 9)} {
		for _, n := range []int{1, 2, -1, 1 << 20, most, -most} {
			p := cellPart(times(n, c))
			putsTo(t, api.Group{}, aggs, times(n, c), api.Group{N: n, Parts: []api.Part{sumPart(n, wideOf(new(big.Int).Mul(numberOf(c), big.NewInt(int64(n))))), p, p}})
		}
	}
	for _, x := range []api.Times{times(3, nothing), times(3), times(3, nothing, cell.Int(4)), {Row: row(cell.Int(4))[:0], N: 3}} {
		putsTo(t, api.Group{N: 1}, aggs, x, api.Group{N: 4, Parts: make([]api.Part, 3)})
	}
	for _, col := range []int{1, 2, -1, math.MaxInt, math.MinInt} {
		putsTo(t, api.Group{N: 1}, []api.Agg{of(sumOf, col), of(least, col), of(greatest, col), of(count, col)}, times(3, cell.Int(4)), api.Group{N: 4, Parts: make([]api.Part, 4)})
	}
}

// P21.1: cells stand in order, each once, and those of which none is left aren't there.
func TestPutKeepsCellsInOrder(t *testing.T) {
	cells := []string{"\x00", no, yes, cell.Int(math.MinInt), cell.Int(-1), cell.Int(0), cell.Int(300), "t", "ta", "taa", "tb"}
	for _, a := range []api.Agg{least, greatest} {
		for i := range cells {
			// From the place on, round, and back.
			round := slices.Concat(cells[i:], cells[:i])
			var g api.Group
			for many, c := range round {
				var want []api.Times
				for _, d := range cells {
					if slices.Contains(round[:many+1], d) {
						want = append(want, times(2, d))
					}
				}
				g = putsTo(t, g, []api.Agg{a}, times(2, c), api.Group{N: 2*many + 2, Parts: []api.Part{cellPart(want...)}})
			}
			for j := range cells {
				var want []api.Times
				for k, d := range cells {
					if k != j {
						want = append(want, times(2, d))
					}
				}
				putsTo(t, g, []api.Agg{a}, times(-2, cells[j]), api.Group{N: g.N - 2, Parts: []api.Part{cellPart(want...)}})
			}
		}
	}
	// Of what isn't there it goes, and comes back.
	g := putsTo(t, api.Group{}, []api.Agg{least}, times(-1, "ta"), api.Group{N: -1, Parts: []api.Part{cellPart(times(-1, "ta"))}})
	putsTo(t, g, []api.Agg{least}, times(1, "ta"), api.Group{Parts: make([]api.Part, 1)})
	putsTo(t, api.Group{N: 1}, []api.Agg{least, sumOf}, times(0, "ta"), api.Group{N: 1, Parts: make([]api.Part, 2)})
}

// P21.1: sums lose nothing beyond 64 bits, and come back.
func TestPutSumsAreWide(t *testing.T) {
	ends := []int{math.MaxInt, math.MinInt, 1, -1, 1 << 62, -1 << 62, 1<<32 + 1}
	for _, a := range ends {
		for _, b := range ends {
			for _, n := range []int{1, 2, -3, 1 << 20, most} {
				total := new(big.Int).Mul(big.NewInt(int64(n)), big.NewInt(int64(b)))
				total.Add(total, big.NewInt(int64(a)))
				g := Put(api.Group{}, []api.Agg{sumOf}, times(1, cell.Int(a)))
				g = putsTo(t, g, []api.Agg{sumOf}, times(n, cell.Int(b)), api.Group{N: 1 + n, Parts: []api.Part{sumPart(1+n, wideOf(total))}})
				putsTo(t, g, []api.Agg{sumOf}, times(-n, cell.Int(b)), api.Group{N: 1, Parts: []api.Part{sumPart(1, wide.Of(a))}})
			}
		}
	}
}

// P21.1: Row, written out.
func TestRowWrittenOut(t *testing.T) {
	aggs := ofSecond()
	g := api.Group{Key: row("ta", nothing), N: 7, Parts: []api.Part{{}, sumPart(6, wide.Of(-50)), cellPart(times(1, cell.Int(-30)), times(5, cell.Int(-4))), cellPart(times(2, "ta"), times(2, "tb"), times(2, "tc"))}}
	rowIs(t, g, aggs, "ta", nothing, cell.Int(7), cell.Int(-50), cell.Int(-30), "tc")
	rowIs(t, g, []api.Agg{greatest, count, greatest, least}, "ta", nothing, nothing, cell.Int(7), cell.Int(-4), "ta")
	rowIs(t, g, nil, "ta", nothing)
	g.Key = nil
	rowIs(t, g, aggs, cell.Int(7), cell.Int(-50), cell.Int(-30), "tc")
	one := cellPart(times(3, "tx"))
	rowIs(t, api.Group{N: 3, Parts: []api.Part{one, one}}, []api.Agg{least, greatest}, "tx", "tx")
	rowIs(t, api.Group{}, nil)
	rowIs(t, api.Group{}, aggs)
	// Which column it is of is all one then.
	for _, col := range []int{0, 5, -1, math.MaxInt, math.MinInt} {
		rowIs(t, g, []api.Agg{of(count, col), of(sumOf, col), of(least, col), of(greatest, col)}, cell.Int(7), cell.Int(-50), cell.Int(-30), "tc")
	}
}

// P21.1: of each way that the group has a Part of, and of each Part that has a way.
func TestRowWhereParts(t *testing.T) {
	full := []api.Part{{}, sumPart(1, wide.Of(4)), cellPart(times(1, "ta")), cellPart(times(1, "tb")), sumPart(1, wide.Of(5))}
	aggs := append(ofSecond(), sumOf)
	cells := row("tk", cell.Int(9), cell.Int(4), "ta", "tb", cell.Int(5))
	for ways := range len(aggs) + 1 {
		for parts := range len(full) + 1 {
			for _, spare := range []int{parts, len(full)} {
				rowIs(t, api.Group{Key: row("tk"), N: 9, Parts: full[:parts:spare]}, aggs[:ways], cells[:1+min(ways, parts)]...)
			}
		}
	}
}

// P21.1: how many rows is the group's own N, whatever the Part has.
func TestRowCounts(t *testing.T) {
	for _, n := range []int{0, 1, -1, 2, 1 << 20, 1<<53 + 1, most, math.MaxInt, math.MinInt} {
		for _, p := range []api.Part{{}, sumPart(5, wide.Of(6)), cellPart(times(4, "ta")), {N: n}, {Sum: api.Wide{High: 1}}} {
			rowIs(t, api.Group{N: n, Parts: []api.Part{p}}, []api.Agg{count}, cell.Int(n))
		}
	}
}

// P21.1: nothing, if the Part's N is 0, or it has no cells.
func TestRowOfNothing(t *testing.T) {
	for _, p := range []api.Part{{}, {Sum: wide.Of(5)}, {Sum: api.Wide{High: 1}}, {Cells: column("ta", "tb")}, {Cells: []api.Times{times(-1, "ta"), times(1, "tb")}}} {
		for _, a := range []api.Agg{sumOf, least, greatest} {
			for _, n := range []int{0, 1, 5, -1} {
				rowIs(t, api.Group{Key: row("tk"), N: n, Parts: []api.Part{p, {}}}, []api.Agg{a, count}, "tk", nothing, cell.Int(n))
			}
		}
	}
	for _, p := range []api.Part{{N: 1}, {N: -1}, {N: 7, Cells: []api.Times{}}, {N: 7, Sum: wide.Of(5)}, {N: 1, Cells: column("ta")[:0]}, {N: 1, Cells: []api.Times{times(1)}}} {
		rowIs(t, api.Group{Parts: []api.Part{p, p}}, []api.Agg{least, greatest}, nothing, nothing)
	}
	// A sum has no cells, and 0 isn't nothing.
	rowIs(t, api.Group{Parts: []api.Part{{N: 1}, {N: -1}, {N: 2, Sum: wide.Of(3)}}}, []api.Agg{sumOf, sumOf, sumOf}, cell.Int(0), cell.Int(0), cell.Int(3))
}

// P21.1: the sum up to the ends of 64 bits; ErrOver one beyond, wherever its way stands.
func TestRowSums(t *testing.T) {
	for _, n := range []int{0, 1, -1, 255, 1 << 32, -1 << 62, math.MaxInt, math.MaxInt - 1, math.MinInt, math.MinInt + 1} {
		rowIs(t, api.Group{Parts: []api.Part{sumPart(1, wide.Of(n))}}, []api.Agg{sumOf}, cell.Int(n))
	}
	for _, w := range []api.Wide{wide.Sum(wide.Of(math.MaxInt), wide.Of(1)), wide.Sum(wide.Of(math.MinInt), wide.Of(-1)), {High: 1}, {High: -1}, {High: -2, Low: math.MaxUint64}, {High: math.MaxInt, Low: math.MaxUint64}, {High: math.MinInt}, {Low: 1 << 63}, {High: -1, Low: 1<<63 - 1}} {
		for place := range 4 {
			parts := []api.Part{sumPart(1, wide.Of(1)), sumPart(1, wide.Of(1)), sumPart(1, wide.Of(1)), sumPart(1, wide.Of(1))}
			parts[place].Sum = w
			aggs := []api.Agg{sumOf, sumOf, sumOf, sumOf}
			g := api.Group{Key: row("tk"), N: 1, Parts: parts}
			rowOver(t, g, aggs)
			rowOver(t, g, aggs[:place+1])
			// It is told just of a way that looks at it.
			rowIs(t, g, aggs[:place], slices.Concat(row("tk"), slices.Repeat(row(cell.Int(1)), place))...)
			for _, other := range []api.Agg{count, least, greatest} {
				aggs[place] = other
				if _, err := Row(g, aggs); err != api.OK {
					t.Errorf("Row(%v, %v) is %d", g, aggs, err)
				}
			}
			aggs[place], parts[place].N = sumOf, 0
			want := slices.Concat(row("tk"), slices.Repeat(row(cell.Int(1)), 4))
			want[1+place] = nothing
			rowIs(t, g, aggs, want...)
		}
	}
}

// P21.1: Find: each group at its place, and what isn't there where it would be, in lists of each length.
func TestFind(t *testing.T) {
	keys := [][]string{{}, {nothing}, {nothing, nothing}, {nothing, "ta"}, {no}, {yes}, {yes, nothing}, {cell.Int(math.MinInt)}, {cell.Int(-1)}, {cell.Int(0)}, {cell.Int(0), nothing, nothing}, {cell.Int(256)}, {"t"}, {"ta"}, {"ta", "ta"}, {"taa"}, {"tb"}, {"x"}, {"\xff"}}
	for there := range 1 << 9 {
		for shift := range 11 {
			var l []api.Group
			for i := range 9 {
				if there>>i&1 == 1 {
					l = append(l, api.Group{Key: keys[shift+i], N: i})
				}
			}
			for i, key := range keys {
				place := 0
				for j := range min(max(i-shift, 0), 9) {
					place += there >> j & 1
				}
				is := i >= shift && i < shift+9 && there>>(i-shift)&1 == 1
				foundAt(t, l, key, place, is)
			}
		}
	}
	foundAt(t, nil, nil, 0, false)
	foundAt(t, []api.Group{}, row("ta"), 0, false)
	foundAt(t, []api.Group{{}}, nil, 0, true)
	foundAt(t, []api.Group{{}}, []string{}, 0, true)
	foundAt(t, []api.Group{{Key: []string{}}}, nil, 0, true)
	foundAt(t, []api.Group{{Key: row("ta")}}, row("ta", "tb")[:1], 0, true)
	// Spare room isn't there.
	foundAt(t, []api.Group{{Key: row("ta")}, {Key: row("tb")}}[:1], row("tb"), 1, false)
}

// P21.1: Find in very many groups.
func TestFindInVeryMany(t *testing.T) {
	const many = 1 << 16
	var l []api.Group
	for i := range many {
		l = append(l, api.Group{Key: row(cell.Int(2 * i))})
	}
	for i := range many {
		foundAt(t, l, row(cell.Int(2*i)), i, true)
		foundAt(t, l, row(cell.Int(2*i-1)), i, false)
	}
	foundAt(t, l, row(cell.Int(2*many)), many, false)
}

// P21.1: Change, written out: groups that come, change and go, and the view's rows by that.
func TestChangeWrittenOut(t *testing.T) {
	aggs, by := ofSecond(), []int{0}
	five, three := cell.Int(5), cell.Int(3)
	l := changed(t, nil, by, aggs, []api.Times{times(2, "tb", five), times(1, "ta", three), times(1, "tb", three)}, 2, times(1, "ta", cell.Int(1), three, three, three), times(1, "tb", cell.Int(3), cell.Int(13), three, five))
	one, both := cellPart(times(1, three)), cellPart(times(1, three), times(2, five))
	want := []api.Group{{Key: row("ta"), N: 1, Parts: []api.Part{{}, sumPart(1, wide.Of(3)), one, one}}, {Key: row("tb"), N: 3, Parts: []api.Part{{}, sumPart(3, wide.Of(13)), both, both}}}
	if !sameGroups(l, want) {
		t.Errorf("groups %q", fmt.Sprint(l))
	}
	// One comes behind, and one ahead; the others aren't told.
	m := changed(t, l, by, aggs, []api.Times{times(1, "tc", nothing), times(1, nothing, five)}, 2, times(1, nothing, cell.Int(1), five, five, five), times(1, "tc", cell.Int(1), nothing, nothing, nothing))
	if len(m) != 4 || !sameGroups(m[1:3], want) || m[0].Key[0] != nothing || m[3].Key[0] != "tc" {
		t.Errorf("groups %q", fmt.Sprint(m))
	}
	// One goes, one changes.
	m = changed(t, m, by, aggs, []api.Times{times(-1, "ta", three), times(-2, "tb", five)}, 2, times(-1, "ta", cell.Int(1), three, three, three), times(1, "tb", cell.Int(1), three, three, three), times(-1, "tb", cell.Int(3), cell.Int(13), three, five))
	if len(m) != 3 || m[1].Key[0] != "tb" || m[1].N != 1 || !sameGroups(m[1:2], []api.Group{{Key: row("tb"), N: 1, Parts: []api.Part{{}, sumPart(1, wide.Of(3)), one, one}}}) {
		t.Errorf("groups %q", fmt.Sprint(m))
	}
	// All go.
	m = changed(t, m, by, aggs, []api.Times{times(-1, "tb", three), times(-1, "tc", nothing), times(-1, nothing, five)}, 3, times(-1, nothing, cell.Int(1), five, five, five), times(-1, "tb", cell.Int(1), three, three, three), times(-1, "tc", cell.Int(1), nothing, nothing, nothing))
	if len(m) != 0 {
		t.Errorf("groups %q", fmt.Sprint(m))
	}
	// What was handed in stands.
	if !sameGroups(l, want) {
		t.Errorf("groups %q", fmt.Sprint(l))
	}
}

// P21.1: rows that come, and go, make no group, but their Key counts.
func TestChangeComesAndGoes(t *testing.T) {
	aggs := ofSecond()
	x := times(2, "tb", cell.Int(7))
	for _, l := range [][]api.Group{nil, oneRow("ta", aggs), oneRow("tc", aggs)} {
		for _, more := range [][]api.Times{{x, minus(x)[0]}, {minus(x)[0], x}, {times(0, x.Row...)}, {times(1, x.Row...), times(1, x.Row...), minus(x)[0]}, {x, times(-2, "tb", nothing)}, {times(5, "tb", cell.Int(math.MaxInt)), times(-5, "tb", "ta")}} {
			got := changed(t, l, []int{0}, aggs, more, 1)
			if !sameGroups(got, l) {
				t.Errorf("groups %q", fmt.Sprint(got))
			}
		}
		if got := changed(t, l, []int{0}, aggs, nil, 0); !sameGroups(got, l) {
			t.Errorf("groups %q", fmt.Sprint(got))
		}
	}
	// Into a group that is there: it stays, and its Row is neither less nor more.
	l := oneRow("tb", aggs)
	for _, more := range [][]api.Times{{x, minus(x)[0]}, {times(0, x.Row...)}, {times(-1, "tb", cell.Int(1)), times(1, "tb", cell.Int(1))}} {
		if got := changed(t, l, []int{0}, aggs, more, 1); !sameGroups(got, l) {
			t.Errorf("groups %q", fmt.Sprint(got))
		}
	}
	// It goes, and comes again as another one, at once.
	changed(t, l, []int{0}, aggs, []api.Times{times(-1, "tb", cell.Int(1)), times(1, "tb", cell.Int(2))}, 1, times(-1, "tb", cell.Int(1), cell.Int(1), cell.Int(1), cell.Int(1)), times(1, "tb", cell.Int(1), cell.Int(2), cell.Int(2), cell.Int(2)))
}

// oneRow is one group of one row: that cell, and 1.
func oneRow(c string, aggs []api.Agg) []api.Group {
	return []api.Group{Put(api.Group{Key: row(c)}, aggs, times(1, c, cell.Int(1)))}
}

// P21.1: a group may change though its Row doesn't: then no row is told, but the Key counts.
func TestChangeThatIsNotSeen(t *testing.T) {
	l := changed(t, nil, []int{0}, []api.Agg{of(greatest, 1)}, []api.Times{times(1, "ta", cell.Int(9))}, 1, times(1, "ta", cell.Int(9)))
	m := changed(t, l, []int{0}, []api.Agg{of(greatest, 1)}, []api.Times{times(4, "ta", cell.Int(2)), times(1, "ta", nothing)}, 1)
	if len(m) != 1 || m[0].N != 6 || !samePart(m[0].Parts[0], cellPart(times(4, cell.Int(2)), times(1, cell.Int(9)))) {
		t.Errorf("groups %q", fmt.Sprint(m))
	}
	changed(t, m, []int{0}, []api.Agg{of(greatest, 1)}, []api.Times{times(-1, "ta", cell.Int(9))}, 1, times(1, "ta", cell.Int(2)), times(-1, "ta", cell.Int(9)))
	changed(t, l, []int{0}, nil, []api.Times{times(4, "ta", cell.Int(2))}, 1)
	changed(t, l, []int{0}, []api.Agg{of(sumOf, 1)}[:0], []api.Times{times(-1, "ta", cell.Int(9))}, 1, times(-1, "ta"))
}

// P21.1: Keys: by no columns, by the same twice, by several, in another order; rows that haven't one are left out.
func TestChangeByColumns(t *testing.T) {
	l := []api.Times{times(1, "tb", cell.Int(1)), times(2, "ta", cell.Int(2)), times(4, "tb", cell.Int(1))}
	changed(t, nil, nil, []api.Agg{count}, l, 1, times(1, cell.Int(7)))
	changed(t, nil, []int{}, nil, l, 1, times(1))
	changed(t, nil, []int{0, 0}, []api.Agg{count}, l, 2, times(1, "ta", "ta", cell.Int(2)), times(1, "tb", "tb", cell.Int(5)))
	changed(t, nil, []int{1, 0}, []api.Agg{count}, l, 2, times(1, cell.Int(1), "tb", cell.Int(5)), times(1, cell.Int(2), "ta", cell.Int(2)))
	changed(t, nil, []int{1}, []api.Agg{count, least}, l, 2, times(1, cell.Int(1), cell.Int(5), "tb"), times(1, cell.Int(2), cell.Int(2), "ta"))
	for _, col := range []int{2, -1, math.MaxInt, math.MinInt} {
		changed(t, nil, []int{col}, []api.Agg{count}, l, 0)
		changed(t, nil, []int{0, col}, []api.Agg{count}, l, 0)
		changed(t, nil, []int{2, 0}, []api.Agg{count}, append(l, times(1, "ta", "tb", "tc")), 1, times(1, "tc", "ta", cell.Int(1)))
	}
	// Cells that make the same bytes side by side are unlike, and nothing is a cell as others are.
	changed(t, nil, []int{0, 1}, []api.Agg{count}, []api.Times{times(1, "ta", "tb"), times(2, "tat", "b"), times(3, "t", "atb"), times(4, nothing, "tatb"), times(5, "tatb", nothing)}, 5,
		times(1, nothing, "tatb", cell.Int(4)), times(1, "t", "atb", cell.Int(3)), times(1, "ta", "tb", cell.Int(1)), times(1, "tat", "b", cell.Int(2)), times(1, "tatb", nothing, cell.Int(5)))
}

// P21.1: groups without rows go, those that nothing is Put into as well.
func TestChangeDropsWhatHasNoRows(t *testing.T) {
	l := []api.Group{{Key: row("ta")}, {Key: row("tb"), N: 1}, {Key: row("tc"), Parts: make([]api.Part, 2)}, {Key: row("td"), N: -1}, {Key: row("te")}}
	for _, more := range [][]api.Times{nil, {times(0, "tb")}, {times(3, "tb"), times(-3, "tb")}} {
		groups, _, _, err := Change(l, []int{0}, nil, more)
		if err != api.OK || len(groups) != 2 || groups[0].Key[0] != "tb" || groups[0].N != 1 || groups[1].Key[0] != "td" || groups[1].N != -1 {
			t.Errorf("groups %q, %d", fmt.Sprint(groups), err)
		}
	}
	// Below none isn't none.
	got := changed(t, nil, []int{0}, []api.Agg{count, least}, []api.Times{times(-2, "ta")}, 1, times(1, "ta", cell.Int(-2), "ta"))
	changed(t, got, []int{0}, []api.Agg{count, least}, []api.Times{times(2, "ta")}, 1, times(-1, "ta", cell.Int(-2), "ta"))
}

// P21.1: ErrOver of a Row that is told alone: then all is as it was.
func TestChangeOver(t *testing.T) {
	aggs := []api.Agg{of(sumOf, 1)}
	big := cell.Int(math.MaxInt)
	l := changed(t, nil, []int{0}, aggs, []api.Times{times(1, "ta", cell.Int(1)), times(1, "tb", big), times(1, "tc", cell.Int(-1)), times(1, "td", nothing)}, 4, times(1, "ta", cell.Int(1)), times(1, "tb", big), times(1, "tc", cell.Int(-1)), times(1, "td", nothing))
	for _, x := range []api.Times{times(1, "ta", big), times(1, "tb", cell.Int(1)), times(1, "tb", big), times(1, "tc", cell.Int(math.MinInt)), times(2, "td", big), times(2, "te", big), times(2, "s", big), times(-2, "x", cell.Int(math.MinInt)), times(1<<20, "td", cell.Int(1<<43)), times(most, "td", cell.Int(4)), times(-3, "tb", big)} {
		for _, others := range [][]api.Times{nil, {times(1, "ta", cell.Int(7))}, {times(1, "s", "t"), times(1, "z", cell.Int(7)), times(-1, "td", nothing)}} {
			for place := range len(others) + 1 {
				changeOver(t, l, []int{0}, aggs, slices.Insert(slices.Clone(others), place, x))
			}
			changeOver(t, nil, []int{0}, aggs, append(slices.Clone(others), times(2, x.Row[0], big)))
		}
		// On the way, and back: no Row is beyond, so nothing is told.
		if got := changed(t, l, []int{0}, aggs, append([]api.Times{x}, minus(x)...), 1); !sameGroups(got, l) {
			t.Errorf("groups %q", fmt.Sprint(got))
		}
	}
	// Each way at each place, and no others.
	for place := range 4 {
		ways := ofSecond()
		ways[0], ways[1], ways[place] = count, count, of(sumOf, 1)
		changeOver(t, nil, []int{0}, ways, []api.Times{times(2, "ta", big)})
		ways[place] = of(least, 1)
		if _, _, _, err := Change(nil, []int{0}, ways, []api.Times{times(2, "ta", big)}); err != api.OK {
			t.Errorf("Change by %v is %d", ways, err)
		}
	}
	// A group beyond that nothing is Put into isn't asked; the Row that a group had is.
	raw := []api.Group{{Key: row("ta"), N: 1, Parts: []api.Part{sumPart(1, api.Wide{High: 1})}}, {Key: row("tb"), N: 1, Parts: []api.Part{sumPart(1, wide.Of(5))}}}
	if got := changed(t, raw, []int{0}, aggs, []api.Times{times(-1, "tb", cell.Int(5)), times(1, "tc", cell.Int(4))}, 2, times(-1, "tb", cell.Int(5)), times(1, "tc", cell.Int(4))); len(got) != 2 || !sameGroup(got[0], raw[0]) {
		t.Errorf("groups %q", fmt.Sprint(got))
	}
	changeOver(t, raw, []int{0}, aggs, []api.Times{times(1, "ta", cell.Int(5))})
	changeOver(t, raw, []int{0}, aggs, []api.Times{times(-1, "ta", cell.Int(5))})
	changeOver(t, raw, []int{0}, aggs, []api.Times{times(-2, "ta", cell.Int(math.MaxInt))})
	// Of a group that goes there is no Row behind.
	m := changed(t, raw[1:], []int{0}, aggs, []api.Times{times(-1, "tb", cell.Int(math.MinInt)), times(1, "tc", cell.Int(4))}, 2, times(-1, "tb", cell.Int(5)), times(1, "tc", cell.Int(4)))
	if len(m) != 1 || m[0].Key[0] != "tc" {
		t.Errorf("groups %q", fmt.Sprint(m))
	}
}

// few are rows that come, or go, with numbers near the ends, nothing, texts, or without a column.
func few() []api.Times {
	return []api.Times{times(2, "ta", cell.Int(5)), times(-1, "ta", cell.Int(5)), times(-1, "ta", cell.Int(-7)), times(1, "ta", cell.Int(math.MaxInt)), times(3, "tb", nothing), times(-3, "tb", cell.Int(math.MinInt)), times(1, nothing, "tx"), times(0, "tc", cell.Int(1)), times(1, "ta")}
}

// bys are columns that rows are taken together by: none, one, two, the same twice, and such as some rows, or all, haven't.
func bys() [][]int {
	return [][]int{nil, {0}, {1}, {0, 1}, {1, 0}, {0, 0}, {2}, {0, -1}, {math.MaxInt}, {math.MinInt, 0}}
}

// waysOf are ways alone, and together.
func waysOf() [][]api.Agg {
	return [][]api.Agg{nil, ofSecond(), {of(sumOf, 1)}, {of(least, 0), of(greatest, 1)}, {count}, {of(greatest, 0), of(sumOf, 0), of(least, 1), count}}
}

// P21.1: all short lists, in two steps, held against the chapter's words by a map, and numbers without ends.
func TestChangeAllShortLists(t *testing.T) {
	lists := listsOf(few(), 2)
	rows, over := 0, 0
	for _, by := range bys() {
		for _, aggs := range waysOf() {
			for _, first := range lists {
				was := noGroups()
				was.change(by, first)
				l := was.groups(aggs)
				for _, more := range lists {
					is := was.copied()
					touched := is.change(by, more)
					told, err := toldOf(was, is, touched, aggs)
					if err != api.OK {
						over++
						changeOver(t, l, by, aggs, more)
						continue
					}
					rows += len(told)
					if got := changed(t, l, by, aggs, more, len(touched), told...); !sameGroups(got, is.groups(aggs)) {
						t.Fatalf("Change(%q, %v, %v, %q) = %q, not %q", fmt.Sprint(l), by, aggs, fmt.Sprint(more), fmt.Sprint(got), fmt.Sprint(is.groups(aggs)))
					}
				}
			}
		}
	}
	if rows < 10000 || over < 1000 {
		t.Errorf("just %d rows, and %d beyond 64 bits", rows, over)
	}
}

// P21.1: longer lists of one step, likewise.
func TestChangeLongerLists(t *testing.T) {
	for _, more := range listsOf(few(), 4) {
		is := noGroups()
		touched := is.change([]int{0}, more)
		told, err := toldOf(noGroups(), is, touched, ofSecond())
		if err != api.OK {
			changeOver(t, nil, []int{0}, ofSecond(), more)
			continue
		}
		if got := changed(t, nil, []int{0}, ofSecond(), more, len(touched), told...); !sameGroups(got, is.groups(ofSecond())) {
			t.Fatalf("Change(%q) = %q", fmt.Sprint(more), fmt.Sprint(got))
		}
	}
}

// P21.1: a Change is each row Put into its group, one behind the other.
func TestChangeIsPuts(t *testing.T) {
	aggs := ofSecond()
	for _, more := range listsOf(few()[:7], 4) {
		g := api.Group{Key: row("tk"), N: 100, Parts: []api.Part{{}, sumPart(50, wide.Of(70)), cellPart(times(50, "ta")), cellPart(times(50, "ta"))}}
		var keyed []api.Times
		l := []api.Group{g}
		for _, x := range more {
			keyed = append(keyed, times(x.N, x.Row[0], x.Row[1], "tk"))
			g = Put(g, aggs, x)
		}
		got, _, n, err := Change(l, []int{2}, aggs, keyed)
		if len(more) == 0 {
			continue
		}
		if _, over := Row(g, aggs); over != api.OK {
			if err != over || n != 0 || !sameGroups(got, l) {
				t.Fatalf("Change by %q is %q, %d, %d", fmt.Sprint(more), fmt.Sprint(got), n, err)
			}
			continue
		}
		if err != api.OK || n != 1 || !sameGroups(got, []api.Group{g}) {
			t.Fatalf("Change by %q is %q, %d, %d, not %q", fmt.Sprint(more), fmt.Sprint(got), n, err, fmt.Sprint(g))
		}
	}
}

// P21.1: in whatever order rows come, and however they are split, the groups are the same, and the rows that are told come to the same.
func TestChangeInAnyOrder(t *testing.T) {
	rows := []api.Times{times(2, "ta", cell.Int(5)), times(1, "tb", nothing), times(-1, "ta", cell.Int(5)), times(4, "ta", cell.Int(-9)), times(-1, "tb", nothing), times(1, nothing, cell.Int(1<<62))}
	aggs := ofSecond()
	groups, told, n, err := Change(nil, []int{0}, aggs, rows)
	if err != api.OK || n != 3 || len(groups) != 2 {
		t.Fatalf("groups %q, %d, %d", fmt.Sprint(groups), n, err)
	}
	for _, l := range ordersOf(rows) {
		if got := changed(t, nil, []int{0}, aggs, l, 3, told...); !sameGroups(got, groups) {
			t.Fatalf("Change by %q is %q", fmt.Sprint(l), fmt.Sprint(got))
		}
		for steps := range 1 << (len(l) - 1) {
			var now []api.Group
			var all, step []api.Times
			for i, x := range l {
				step = append(step, x)
				if i < len(l)-1 && steps>>i&1 == 0 {
					continue
				}
				var more []api.Times
				now, more, _, err = Change(now, []int{0}, aggs, step)
				all, step = append(all, more...), nil
				if err != api.OK || !weigh.Right(more) {
					t.Fatalf("Change by %q tells %q, %d", fmt.Sprint(l), fmt.Sprint(more), err)
				}
			}
			if !sameGroups(now, groups) || !same(weigh.Of(all), told) {
				t.Fatalf("in steps %b of %q groups are %q, and %q", steps, fmt.Sprint(l), fmt.Sprint(now), fmt.Sprint(all))
			}
		}
	}
}

// rowsOf are the Rows of all groups, each once.
func rowsOf(t *testing.T, l []api.Group, aggs []api.Agg) []api.Times {
	t.Helper()
	var rows []api.Times
	for _, g := range l {
		cells, err := Row(g, aggs)
		if err != api.OK {
			t.Fatalf("Row(%q) is %d", fmt.Sprint(g), err)
		}
		rows = append(rows, times(1, cells...))
	}
	return rows
}

// P21.2: of all rows that are there, whichever came and went, groups' Rows are fold's Groups; and what is told leads from those ahead to those behind.
func TestAsAnew(t *testing.T) {
	var there []api.Times
	var groups []api.Group
	by, aggs := []int{2, 0}, []api.Agg{of(sumOf, 3), count, of(least, 3), of(greatest, 1), of(least, 1), of(sumOf, 1)}
	var ahead []api.Times
	gone := 0
	for step := range 400 {
		var more []api.Times
		for i := range step*step%7 + 1 {
			k := step*31 + i*17
			x := times(k%3+1, cell.Int(k%4), cell.Text(strconv.Itoa(k*k%9)), cell.Bool(k%5 == 0), cell.Int((k*7919%1000-500)*(1<<42)))
			if k%6 == 0 {
				x.Row[k/6%4] = nothing
			}
			more = append(more, x)
		}
		// Those that are there go again, and more of them later.
		for i := range there {
			if (i*13+step*7)%(11-step/50) == 0 {
				more = append(more, times(-1-(i+step)%there[i].N, there[i].Row...))
			}
		}
		there = weigh.Sum(there, more)
		if step == 399 {
			more, there = append(more, minus(there...)...), nil
		}
		if !weigh.Whole(there) {
			t.Fatal("a row goes below none")
		}
		want, err := fold.Groups(there, by, aggs)
		if err != api.OK {
			t.Fatal("a sum is beyond 64 bits")
		}
		was := len(groups)
		var told []api.Times
		var keys int
		groups, told, keys, err = Change(groups, by, aggs, more)
		rows := rowsOf(t, groups, aggs)
		if !same(rows, want) || err != api.OK || keys != len(sieve.Project(absolute(more), by)) {
			t.Fatalf("step %d: %d, %d, rows %.900q, not %.900q", step, keys, err, fmt.Sprint(rows), fmt.Sprint(want))
		}
		if !same(weigh.Sum(ahead, told), want) || !weigh.Right(told) {
			t.Fatalf("step %d tells %q", step, fmt.Sprint(told))
		}
		anew, _, _, _ := Change(nil, by, aggs, there)
		if !sameGroups(groups, anew) {
			t.Fatalf("step %d: groups %.900q, not %.900q", step, fmt.Sprint(groups), fmt.Sprint(anew))
		}
		ahead = want
		gone += max(was-len(groups), 0)
	}
	if gone < 10 || len(groups) != 0 {
		t.Errorf("just %d groups have gone, and %d are there", gone, len(groups))
	}
}

// absolute are the rows, each coming once.
func absolute(l []api.Times) []api.Times {
	var all []api.Times
	for _, x := range l {
		all = append(all, times(1, x.Row...))
	}
	return all
}

// P21.2: of all short lists of rows that are there, by each choice of columns.
func TestAsAnewOfAllShortLists(t *testing.T) {
	rows := []api.Times{times(2, "ta", cell.Int(5)), times(1, "ta", cell.Int(-7)), times(3, "tb", nothing), times(1, "tb", cell.Int(math.MaxInt)), times(1, nothing, cell.Int(math.MinInt)), times(2, cell.Int(1), "tx"), times(1, "ta", nothing)}
	over := 0
	for _, l := range listsOf(rows, 4) {
		for _, by := range bys() {
			for _, aggs := range waysOf() {
				want, err := fold.Groups(l, by, aggs)
				groups, told, n, got := Change(nil, by, aggs, l)
				if got != err || !same(told, want) || n != len(want) || err == api.OK && !same(rowsOf(t, groups, aggs), want) || err != api.OK && len(groups) != 0 {
					t.Fatalf("Change(%q, %v, %v) = %q, %q, %d, %d, not %q, %d", fmt.Sprint(l), by, aggs, fmt.Sprint(groups), fmt.Sprint(told), n, got, fmt.Sprint(want), err)
				}
				over += int(err)
			}
		}
	}
	if over < 1000 {
		t.Errorf("just %d", over)
	}
}

// P21.2: the least and the greatest go, and the next ones are it.
func TestNextOnes(t *testing.T) {
	var l []api.Times
	for i := range 50 {
		l = append(l, times(i%3+1, "ta", cell.Int(i*i-600)))
	}
	aggs := []api.Agg{of(least, 1), of(greatest, 1)}
	groups := changed(t, nil, []int{0}, aggs, l, 1, times(1, "ta", l[0].Row[1], l[49].Row[1]))
	for i := range 24 {
		ends := minus(l[i], l[49-i])
		ahead, behind := times(-1, "ta", l[i].Row[1], l[49-i].Row[1]), times(1, "ta", l[i+1].Row[1], l[48-i].Row[1])
		groups = changed(t, groups, []int{0}, aggs, ends, 1, ahead, behind)
	}
	changed(t, groups, []int{0}, aggs, minus(l[24], l[25]), 1, times(-1, "ta", l[24].Row[1], l[25].Row[1]))
}

// P21.2: of a table joined with itself.
func TestOfRowsJoined(t *testing.T) {
	l := []api.Times{times(2, "ta", cell.Int(5)), times(3, "ta", cell.Int(7)), times(1, "tb", cell.Int(1))}
	on := [][2]int{{0, 0}}
	aggs := []api.Agg{count, of(sumOf, 3), of(least, 3)}
	groups := changed(t, nil, []int{0}, aggs, pair.Join(l, l, on), 2, times(1, "ta", cell.Int(25), cell.Int(5*31), cell.Int(5)), times(1, "tb", cell.Int(1), cell.Int(1), cell.Int(1)))
	less := minus(l[0])
	delta := slices.Concat(pair.Join(less, l, on), pair.Join(l, less, on), pair.Join(less, less, on))
	groups = changed(t, groups, []int{0}, aggs, delta, 1, times(1, "ta", cell.Int(9), cell.Int(3*21), cell.Int(7)), times(-1, "ta", cell.Int(25), cell.Int(5*31), cell.Int(5)))
	if len(groups) != 2 {
		t.Errorf("groups %q", fmt.Sprint(groups))
	}
}

// Very many rows: each in a group of its own, all in one, and a few into very many.
func TestVeryManyRows(t *testing.T) {
	const many = 1 << 17
	var l []api.Times
	for i := range many {
		l = append(l, times(2, cell.Int(i*54321%many), cell.Int(i%3), cell.Int(i)))
	}
	aggs := []api.Agg{count, of(least, 2), of(sumOf, 2)}
	groups, told, n, err := Change(nil, []int{0}, aggs, l)
	if len(groups) != many || len(told) != many || n != many || err != api.OK {
		t.Fatalf("%d groups, %d told, %d, %d", len(groups), len(told), n, err)
	}
	for i, g := range groups {
		if g.N != 2 || !slices.Equal(g.Key, row(cell.Int(i))) {
			t.Fatalf("group %d is %q", i, fmt.Sprint(g))
		}
	}
	again := changed(t, groups, []int{0}, aggs, minus(l[7]), 1, times(-1, l[7].Row[0], cell.Int(2), cell.Int(7), cell.Int(14)))
	if len(again) != many-1 {
		t.Errorf("%d groups", len(again))
	}
	one := changed(t, nil, nil, aggs, l, 1, times(1, cell.Int(2*many), cell.Int(0), cell.Int(many*(many-1))))
	if len(one) != 1 || len(one[0].Parts[1].Cells) != many {
		t.Errorf("%d groups", len(one))
	}
	changed(t, one, nil, aggs, minus(l...), 1, times(-1, cell.Int(2*many), cell.Int(0), cell.Int(many*(many-1))))
	if groups, told, n, err = Change(groups, []int{0}, aggs, minus(l...)); len(groups) != 0 || len(told) != many || n != many || err != api.OK {
		t.Errorf("%d groups, %d told, %d, %d", len(groups), len(told), n, err)
	}
}

// Very many columns, and very many ways.
func TestVeryManyColumns(t *testing.T) {
	const many = 1 << 16
	by, aggs, full := make([]int, many), make([]api.Agg, many), make([]string, many)
	for i := range many {
		by[i], aggs[i], full[i] = many-1-i, of(ofSecond()[i%4], i), cell.Int(i)
	}
	turned := slices.Clone(full)
	slices.Reverse(turned)
	want := slices.Concat(turned, full)
	for i := range many / 4 {
		want[many+4*i] = cell.Int(1)
	}
	l := changed(t, nil, by, aggs, []api.Times{{Row: full, N: 1}, {Row: full[1:], N: 7}}, 1, times(1, want...))
	changed(t, l, by, aggs, []api.Times{{Row: full, N: -1}}, 1, times(-1, want...))
}

// raws are groups that these calls don't make.
func raws() []api.Group {
	cells := []api.Times{times(0, "tz"), times(1), {}, times(-1, "ta", "tb"), times(math.MaxInt, "ta"), times(math.MinInt, "ta"), times(1, nothing)}
	parts := []api.Part{{N: 1, Cells: cells}, {N: math.MinInt, Sum: api.Wide{High: math.MinInt}, Cells: cells[:1]}, {N: math.MaxInt, Sum: api.Wide{High: math.MaxInt, Low: math.MaxUint64}, Cells: cells[1:3]}, {Cells: make([]api.Times, 3)}, {N: -1}}
	return []api.Group{{Key: row("tb"), N: math.MaxInt, Parts: parts}, {}, {Key: row("ta", "ta"), N: -1, Parts: parts[1:]}, {N: 1, Parts: parts[2:]}, {Key: make([]string, 100), Parts: make([]api.Part, 100)}, {Key: row("ta"), N: math.MinInt, Parts: parts[:2]}, {Key: row("ta"), N: 3, Parts: parts[2:]}, {Key: row("tb")}}
}

// Wrong groups, lists, columns and ways: a call ends, whatever it is given.
func TestWhateverIsGiven(t *testing.T) {
	l := append(few(), times(math.MaxInt, "ta", cell.Int(math.MaxInt)), times(math.MaxInt, "ta", cell.Int(math.MinInt)), times(math.MinInt, "tb", cell.Int(math.MinInt)), times(math.MinInt, "x", "x"), api.Times{}, times(1, strings.Repeat("x", 1<<12)), times(1, make([]string, 1<<8)...))
	var ways []api.Agg
	for _, way := range []int{1, 2, 3, 4, 0, -1, 5, math.MaxInt, math.MinInt} {
		for _, col := range []int{0, 1, -1, math.MaxInt, math.MinInt} {
			ways = append(ways, api.Agg{Way: way, Col: col})
		}
	}
	for _, a := range ways {
		for _, aggs := range [][]api.Agg{{a}, {a, {}, a, a}, make([]api.Agg, 30)} {
			for _, g := range raws() {
				Row(g, aggs)
				for _, x := range l {
					Put(g, aggs, x)
				}
			}
			for _, by := range append(bys(), make([]int, 100)) {
				for _, groups := range [][]api.Group{nil, raws(), make([]api.Group, 9)} {
					Change(groups, by, aggs, l)
					Change(groups, by, aggs, l[1:2])
				}
			}
		}
	}
	for _, groups := range [][]api.Group{raws(), make([]api.Group, 9)} {
		for _, g := range raws() {
			if place, _ := Find(groups, g.Key); place < 0 || place > len(groups) {
				t.Errorf("Find(%q) is %d", g.Key, place)
			}
		}
	}
}

// given are groups, columns, ways and rows, with spare room in, and behind.
func given() ([]api.Group, []int, []api.Agg, []api.Times) {
	aggs := append(ofSecond(), api.Agg{Way: 9, Col: 9})[:4]
	l := []api.Times{times(2, "tb", cell.Int(5), "spare"), times(1, "ta", cell.Int(-7), "spare"), times(3, "tb", nothing, "spare"), times(1, "td", cell.Int(1), "spare"), times(1, "ta", cell.Int(8), "spare"), times(-3, "tc", cell.Int(4), "spare"), times(9, "spare"), times(8, "spare")}
	for i := range 6 {
		l[i].Row = l[i].Row[:2]
	}
	var groups []api.Group
	for _, c := range row("ta", "tb", "tc", "te") {
		cells := []api.Times{times(1, cell.Int(3), "spare"), times(2, cell.Int(4), "spare"), times(5, "spare")}
		others := []api.Times{times(1, cell.Int(3), "spare"), times(2, cell.Int(4), "spare"), times(5, "spare")}
		for i := range 2 {
			cells[i].Row, others[i].Row = cells[i].Row[:1], others[i].Row[:1]
		}
		groups = append(groups, api.Group{Key: row(c, "spare")[:1], N: 3, Parts: []api.Part{{}, sumPart(3, wide.Of(11)), {N: 3, Cells: cells[:2]}, {N: 3, Cells: others[:2]}, {N: 77, Cells: column("spare")}}[:4]})
	}
	groups = append(groups, api.Group{Key: row("tspare"), N: 4}, api.Group{Key: row("tspare"), N: 5})[:4]
	return groups, []int{0, 1, 77}[:1], aggs, l[:6]
}

// answer is all that calls answer of them.
type answer struct {
	groups []api.Group
	rows   []api.Times
}

// answers are what the calls answer of them.
func answers(groups []api.Group, by []int, aggs []api.Agg, l []api.Times) []answer {
	var all []answer
	for _, more := range [][]api.Times{l, l[1:2], l[5:], nil} {
		now, rows, _, _ := Change(groups, by, aggs, more)
		all = append(all, answer{now, rows})
	}
	var put []api.Group
	var rows []api.Times
	for i, g := range groups {
		put = append(put, Put(g, aggs, l[i]), Put(g, aggs[:i], api.Times{Row: row("ta")}))
		cells, _ := Row(g, aggs)
		rows = append(rows, times(1, cells...))
	}
	return append(all, answer{put, rows})
}

// sameAnswers tells whether all is the same.
func sameAnswers(a, b []answer) bool {
	return slices.EqualFunc(a, b, func(x, y answer) bool { return sameGroups(x.groups, y.groups) && same(x.rows, y.rows) })
}

// changeRows changes each row of a list, its spare room too.
func changeRows(l []api.Times) {
	l = l[:cap(l)]
	for i := range l {
		all := l[i].Row[:cap(l[i].Row)]
		for j := range all {
			all[j] = "changed"
		}
		l[i] = times(-99, "changed")
	}
}

// changeGroups changes each group of a list, its spare room too.
func changeGroups(l []api.Group) {
	l = l[:cap(l)]
	for i := range l {
		key := l[i].Key[:cap(l[i].Key)]
		for j := range key {
			key[j] = "changed"
		}
		parts := l[i].Parts[:cap(l[i].Parts)]
		for j := range parts {
			changeRows(parts[j].Cells)
			parts[j] = sumPart(-99, wide.Of(-99))
		}
		l[i] = api.Group{Key: row("changed"), N: -99}
	}
}

// rowsAsIs is a text that has all of a list, its spare room too.
func rowsAsIs(l []api.Times) string {
	var b strings.Builder
	for _, x := range l[:cap(l)] {
		b.WriteString(fmt.Sprintf("%d %q %d; ", x.N, x.Row[:cap(x.Row)], len(x.Row)))
	}
	return b.String()
}

// asIs is a text that has all that is handed in, its spare room too.
func asIs(groups []api.Group, by []int, aggs []api.Agg, l []api.Times) string {
	var b strings.Builder
	for _, g := range groups[:cap(groups)] {
		b.WriteString(fmt.Sprintf("%q %d %d: ", g.Key[:cap(g.Key)], len(g.Key), g.N))
		for _, p := range g.Parts[:cap(g.Parts)] {
			b.WriteString(fmt.Sprintf("%d %v %s %d, ", p.N, p.Sum, rowsAsIs(p.Cells), len(p.Cells)))
		}
	}
	return b.String() + fmt.Sprint(by[:cap(by)], aggs[:cap(aggs)]) + rowsAsIs(l)
}

// What is handed in isn't changed, its spare room neither, and answers are new memory.
func TestNothingIsChangedOrShared(t *testing.T) {
	groups, by, aggs, l := given()
	was := asIs(groups, by, aggs, l)
	want := answers(given())
	for range 2 {
		got := answers(groups, by, aggs, l)
		if !sameAnswers(got, want) {
			t.Fatalf("answers are %q, not %q", fmt.Sprint(got), fmt.Sprint(want))
		}
		for _, a := range got {
			changeGroups(a.groups)
			changeRows(a.rows)
		}
		Find(groups, someKey())
		if asIs(groups, by, aggs, l) != was {
			t.Fatalf("%s, not %s", asIs(groups, by, aggs, l), was)
		}
	}
	got := answers(groups, by, aggs, l)
	changeGroups(groups)
	changeRows(l)
	by[0], aggs[0], aggs[1] = 5, api.Agg{}, api.Agg{}
	if !sameAnswers(got, want) {
		t.Fatalf("answers hang on what was handed in: %q", fmt.Sprint(got))
	}
}

// someKey is a Key with spare room.
func someKey() []string { return row("tb", "spare")[:1] }

// Beside an error l is as it was, and what is handed in as well.
func TestNothingIsChangedBesideAnError(t *testing.T) {
	groups, by, aggs, l := given()
	l = append(l, times(2, "te", cell.Int(math.MaxInt)))
	was := asIs(groups, by, aggs, l)
	changeOver(t, groups, by, aggs, l)
	if asIs(groups, by, aggs, l) != was {
		t.Errorf("%s, not %s", asIs(groups, by, aggs, l), was)
	}
}

// No two groups, and no two rows, of an answer share anything.
func TestPartsOfAnAnswerShareNothing(t *testing.T) {
	for which := range answers(given()) {
		for changed := range answers(given())[which].groups {
			got, want := answers(given())[which], answers(given())[which]
			changeGroups(got.groups[changed : changed+1 : changed+1])
			want.groups[changed] = got.groups[changed]
			if !sameAnswers([]answer{got}, []answer{want}) {
				t.Errorf("group %d of answer %d changed others: %q", changed, which, fmt.Sprint(got))
			}
		}
		for changed := range answers(given())[which].rows {
			got, want := answers(given())[which], answers(given())[which]
			changeRows(got.rows[changed : changed+1 : changed+1])
			want.rows[changed] = got.rows[changed]
			if !sameAnswers([]answer{got}, []answer{want}) {
				t.Errorf("row %d of answer %d changed others: %q", changed, which, fmt.Sprint(got))
			}
		}
	}
	// The least and the greatest of one column are kept apart.
	g := Put(api.Group{}, []api.Agg{least, greatest}, times(1, "ta"))
	changeRows(g.Parts[0].Cells)
	if !samePart(g.Parts[1], cellPart(times(1, "ta"))) {
		t.Errorf("group %q", fmt.Sprint(g))
	}
}

// Nothing is kept from call to call: what was asked ahead is all one.
func TestNothingIsKept(t *testing.T) {
	want := answers(given())
	for _, by := range bys() {
		for _, aggs := range waysOf() {
			groups, _, _, _ := Change(nil, by, aggs, few()[:3])
			Change(groups, by, aggs, few()[3:])
			Change(raws(), by, aggs, few())
			if !sameAnswers(answers(given()), want) {
				t.Fatalf("behind a call by %v and %v answers are others", by, aggs)
			}
		}
	}
}

// Any number of goroutines may call at once, of the same groups and rows too.
func TestAtOnce(t *testing.T) {
	groups, by, aggs, l := given()
	want := answers(given())
	var all sync.WaitGroup
	for range 8 {
		all.Go(func() {
			for range 100 {
				place, there := Find(groups, someKey())
				if !sameAnswers(answers(groups, by, aggs, l), want) || place != 1 || !there {
					t.Error("calls at once aren't as one alone")
				}
			}
		})
	}
	all.Wait()
}
