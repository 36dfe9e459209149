package pair

import (
	"fmt"
	"math"
	"slices"
	"strconv"
	"strings"
	"sync"
	"testing"

	"distiller/api"
	"distiller/cell"
	"distiller/sieve"
	"distiller/weigh"
)

const (
	yes     = "b\x01"
	no      = "b\x00"
	nothing = ""
	// most is how often rows may be there together.
	most = 1 << 62
)

// at2 is two columns that are held against each other.
type at2 = [2]int

// row is a row of these cells.
func row(cells ...string) []string { return cells }

// times is a row of these cells, so often.
func times(n int, cells ...string) api.Times {
	return api.Times{Row: cells, N: n}
}

// same tells whether two lists have the same rows, as often, as they stand.
func same(a, b []api.Times) bool {
	return slices.EqualFunc(a, b, func(x, y api.Times) bool { return x.N == y.N && slices.Equal(x.Row, y.Row) })
}

// deep is the list in memory of its own.
func deep(l []api.Times) []api.Times {
	out := make([]api.Times, len(l))
	for i, x := range l {
		out[i] = api.Times{Row: slices.Clone(x.Row), N: x.N}
	}
	return out
}

// listsOf are all lists of up to most of these.
func listsOf[T any](these []T, most int) [][]T {
	var l [][]T
	var all func(ahead []T)
	all = func(ahead []T) {
		l = append(l, ahead)
		if len(ahead) == most {
			return
		}
		for _, x := range these {
			all(append(slices.Clip(ahead), x))
		}
	}
	all(nil)
	return l
}

// ordersOf are all orders of these.
func ordersOf(these []api.Times) [][]api.Times {
	if len(these) == 0 {
		return [][]api.Times{nil}
	}
	var l [][]api.Times
	for i, x := range these {
		for _, others := range ordersOf(slices.Concat(these[:i], these[i+1:])) {
			l = append(l, append([]api.Times{x}, others...))
		}
	}
	return l
}

// named is a text by which rows are told apart: each cell behind how long it is.
func named(row []string) string {
	var b strings.Builder
	for _, c := range row {
		b.WriteString(strconv.Itoa(len(c)) + ":" + c)
	}
	return b.String()
}

// ahead tells whether a row stands ahead of another one: by the first cell that is unlike, else the shorter one.
func ahead(a, b []string) bool {
	for i := 0; i < len(a) && i < len(b); i++ {
		if a[i] != b[i] {
			return a[i] < b[i]
		}
	}
	return len(a) < len(b)
}

// meeting is what Meets is to be: each two columns there, in both, the same, and not nothing.
func meeting(a, b []string, on []at2) bool {
	met := 0
	for _, c := range on {
		there := c[0] >= 0 && c[0] < len(a) && c[1] >= 0 && c[1] < len(b)
		if there && a[c[0]] == b[c[1]] && len(a[c[0]]) > 0 && len(b[c[1]]) > 0 {
			met++
		}
	}
	return met == len(on)
}

// joined is what Join is to be: each with each, counted by a map.
func joined(l, m []api.Times, on []at2) []api.Times {
	many, rows := map[string]int{}, map[string][]string{}
	for _, x := range l {
		for _, y := range m {
			if meeting(x.Row, y.Row, on) {
				both := append(append([]string{}, x.Row...), y.Row...)
				many[named(both)] += x.N * y.N
				rows[named(both)] = both
			}
		}
	}
	var out []api.Times
	for k, n := range many {
		if n != 0 {
			out = append(out, api.Times{Row: rows[k], N: n})
		}
	}
	slices.SortFunc(out, func(a, b api.Times) int {
		if ahead(a.Row, b.Row) {
			return -1
		}
		return 1
	})
	return out
}

// few are rows that come, and go, side by side, such as are there 0 times, have nothing, or haven't as many cells.
func few() []api.Times {
	return []api.Times{times(2, "ta", "tb"), times(-2, "ta", "tb"), times(-1, "tb", "ta"), times(3, "ta", "ta"), times(0, "tb", "tb"), times(1, nothing, "ta"), times(2, nothing, nothing), times(1, "ta"), times(5)}
}

// ons are columns held against each other: none, one, two, the same more than once, and such as some rows, or all, haven't.
func ons() [][]at2 {
	end, begin := math.MaxInt, math.MinInt
	return append(listsOf([]at2{{0, 0}, {0, 1}, {1, 0}, {1, 1}}, 2),
		[]at2{{0, 0}, {1, 1}, {0, 1}}, []at2{{0, 0}, {0, 0}, {0, 0}}, []at2{{2, 0}}, []at2{{0, 2}}, []at2{{2, 2}},
		[]at2{{-1, 0}}, []at2{{0, -1}}, []at2{{-1, -1}}, []at2{{0, 0}, {2, 2}}, []at2{{2, 2}, {0, 0}}, []at2{{end, end}}, []at2{{begin, begin}}, []at2{{0, 0}, {begin, end}})
}

// meets asks Meets.
func meets(t *testing.T, want bool, a, b []string, on ...at2) {
	t.Helper()
	if got := Meets(a, b, on); got != want {
		t.Errorf("Meets(%.300q, %.300q, %.300v) = %v", a, b, on, got)
	}
}

// joinsTo asks Join.
func joinsTo(t *testing.T, l, m []api.Times, on []at2, want ...api.Times) {
	t.Helper()
	if got := Join(l, m, on); !same(got, want) {
		t.Errorf("Join(%.500q, %.500q, %.300v) = %.500q, not %.500q", fmt.Sprint(l), fmt.Sprint(m), on, fmt.Sprint(got), fmt.Sprint(want))
	}
}

// P19.1: written out: the first of a, and the second of b.
func TestMeetsWrittenOut(t *testing.T) {
	a, b := row("ta", "tb", "tc"), row("tb", "tx", "ta")
	meets(t, true, a, b, at2{0, 2})
	meets(t, true, a, b, at2{1, 0})
	meets(t, true, a, b, at2{0, 2}, at2{1, 0})
	meets(t, true, a, b, at2{1, 0}, at2{0, 2}, at2{1, 0})
	meets(t, false, a, b, at2{2, 0})
	meets(t, false, a, b, at2{0, 1})
	meets(t, false, a, b, at2{0, 0})
	meets(t, false, a, b, at2{2, 2})
	// Each of them must: where one doesn't, it is all one at which place.
	meets(t, false, a, b, at2{0, 2}, at2{2, 1})
	meets(t, false, a, b, at2{2, 1}, at2{0, 2})
	meets(t, false, a, b, at2{0, 2}, at2{1, 0}, at2{2, 1})
	meets(t, false, a, b, at2{0, 2}, at2{2, 1}, at2{1, 0})
	// One column may be held against two.
	meets(t, true, row("ta"), row("ta", "ta"), at2{0, 0}, at2{0, 1})
	meets(t, false, row("ta"), row("ta", "tb"), at2{0, 0}, at2{0, 1})
	meets(t, true, row("ta", "ta"), row("ta"), at2{0, 0}, at2{1, 0})
	meets(t, false, row("ta", "tb"), row("ta"), at2{0, 0}, at2{1, 0})
}

// P19.1: nothing meets nothing else, and itself neither.
func TestMeetsOfNothing(t *testing.T) {
	meets(t, false, row(nothing), row(nothing), at2{0, 0})
	meets(t, false, row(nothing), row("ta"), at2{0, 0})
	meets(t, false, row("ta"), row(nothing), at2{0, 0})
	meets(t, false, row("ta", nothing), row("ta", nothing), at2{0, 0}, at2{1, 1})
	meets(t, false, row(nothing, "ta"), row(nothing, "ta"), at2{0, 0}, at2{1, 1})
	meets(t, true, row(nothing, "ta"), row(nothing, "ta"), at2{1, 1})
	// A cell of a byte 0, or no, or 0, or no letter, is something.
	for _, c := range []string{no, cell.Int(0), cell.Text(""), "\x00"} {
		meets(t, true, row(c), row(c), at2{0, 0})
		meets(t, false, row(c), row(nothing), at2{0, 0})
		meets(t, false, row(nothing), row(c), at2{0, 0})
	}
}

// P19.1: of no columns each row meets each.
func TestMeetsOnNothing(t *testing.T) {
	for _, a := range [][]string{nil, {}, {nothing}, {"ta"}, {"ta", "tb"}} {
		for _, b := range [][]string{nil, {}, {nothing}, {"ta"}, {"tx", "ty", "tz"}} {
			if !Meets(a, b, nil) {
				t.Errorf("Meets(%q, %q) of nil is no", a, b)
			}
			meets(t, true, a, b, []at2{}...)
		}
	}
}

// P19.1: a column must be there, in both.
func TestMeetsWhereAColumnIs(t *testing.T) {
	ends := []int{math.MinInt, -1 << 32, -3, -2, -1, 0, 1, 2, 3, 4, 5, 1 << 32, math.MaxInt}
	for _, many := range []int{0, 1, 2, 3} {
		for _, others := range []int{0, 1, 2, 3} {
			a, b := slices.Repeat(row("ta"), many), slices.Repeat(row("ta"), others)
			for _, c := range ends {
				for _, d := range ends {
					is := c >= 0 && c < many && d >= 0 && d < others
					meets(t, is, a, b, at2{c, d})
					meets(t, is, a, b, at2{c, d}, at2{c, d})
					meets(t, is && many > 0 && others > 0, a, b, at2{0, 0}, at2{c, d})
					meets(t, is && many > 0 && others > 0, a, b, at2{c, d}, at2{0, 0})
				}
			}
		}
	}
	// What is in a row's spare room isn't there.
	spare := row("ta", "tb")
	meets(t, false, spare[:1], spare[:1], at2{1, 1})
	meets(t, false, spare, spare[:1], at2{1, 1})
	meets(t, false, spare[:1], spare, at2{1, 1})
	meets(t, true, spare, spare, at2{1, 1})
}

// cells are of all kinds, such as are near to one another, and texts that are no cells.
func cells() []string {
	return []string{nothing, "\x00", no, yes, "b", "b\x02", cell.Int(math.MinInt), cell.Int(-1), cell.Int(0), cell.Int(1), cell.Int(math.MaxInt), "i", "t", "ta", "tA", "ta\x00", "ta ", "taa", "tb", "t\x80", "t\xff", "tt", "x", "xa", "\xff", "t" + strings.Repeat("a", api.MaxText), "t" + strings.Repeat("a", api.MaxText+1), cell.Text("1"), "tnothing"}
}

// P19.1: the same is the same cell, byte by byte.
func TestMeetsOfEachTwoCells(t *testing.T) {
	for i, c := range cells() {
		for j, d := range cells() {
			is := i == j && i > 0
			meets(t, is, row(c), row(d), at2{0, 0})
			meets(t, is, row("tx", c), row(d, "tx"), at2{1, 0}, at2{0, 1})
			// A text of the same bytes in other memory is the same.
			meets(t, is, row(c), row(string([]byte(d))), at2{0, 0})
			var want []api.Times
			if is {
				want = []api.Times{times(6, c, "tl", "tm", d)}
			}
			joinsTo(t, []api.Times{times(2, c, "tl")}, []api.Times{times(3, "tm", string([]byte(d)))}, []at2{{0, 1}}, want...)
		}
	}
}

// P19.1: all short rows, by all columns.
func TestMeetsShortRows(t *testing.T) {
	rows := listsOf([]string{nothing, "ta", "tb"}, 3)
	met, not := 0, 0
	for _, a := range rows {
		for _, b := range rows {
			for _, on := range ons() {
				is := meeting(a, b, on)
				meets(t, is, a, b, on...)
				if is {
					met++
				} else {
					not++
				}
			}
		}
	}
	if met < 1000 || not < 1000 {
		t.Errorf("just %d meet, and %d don't", met, not)
	}
}

// P19.1: the example: a twice, a three times: six times.
func TestJoinExample(t *testing.T) {
	joinsTo(t, []api.Times{times(2, "ta")}, []api.Times{times(3, "ta")}, []at2{{0, 0}}, times(6, "ta", "ta"))
}

// P19.1: written out: the cells of both, the first one's ahead.
func TestJoinWrittenOut(t *testing.T) {
	l := []api.Times{times(2, cell.Int(1), "ta"), times(1, cell.Int(2), "tb"), times(3, cell.Int(3), "ta"), times(1, cell.Int(4), nothing)}
	m := []api.Times{times(5, "tb", yes), times(7, "ta", no), times(1, "ta", yes), times(1, nothing, no), times(1, "tc", yes)}
	joinsTo(t, l, m, []at2{{1, 0}},
		times(14, cell.Int(1), "ta", "ta", no), times(2, cell.Int(1), "ta", "ta", yes),
		times(5, cell.Int(2), "tb", "tb", yes),
		times(21, cell.Int(3), "ta", "ta", no), times(3, cell.Int(3), "ta", "ta", yes))
	joinsTo(t, m, l, []at2{{0, 1}},
		times(14, "ta", no, cell.Int(1), "ta"), times(21, "ta", no, cell.Int(3), "ta"),
		times(2, "ta", yes, cell.Int(1), "ta"), times(3, "ta", yes, cell.Int(3), "ta"),
		times(5, "tb", yes, cell.Int(2), "tb"))
	joinsTo(t, l[:1], m[:2], nil, times(14, cell.Int(1), "ta", "ta", no), times(10, cell.Int(1), "ta", "tb", yes))
	joinsTo(t, l, m, []at2{{0, 0}})
	joinsTo(t, l, m, []at2{{1, 0}, {0, 1}})
	joinsTo(t, l, m, []at2{{1, 1}})
	joinsTo(t, l, m, []at2{{0, 1}})
}

// P19.1: of no rows, on either side, there are none.
func TestJoinOfNoRows(t *testing.T) {
	l := []api.Times{times(2, "ta"), times(1)}
	for _, on := range append(ons(), nil) {
		for _, none := range [][]api.Times{nil, {}, l[:0], {times(0, "ta")}, {times(0)}, {times(1, "ta"), times(-1, "ta")}} {
			joinsTo(t, l, none, on)
			joinsTo(t, none, l, on)
			joinsTo(t, none, none, on)
		}
	}
}

// P19.1: on no columns each meets each, rows that have nothing, or no cell, too.
func TestJoinOnNothing(t *testing.T) {
	l := []api.Times{times(2, "tb"), times(3, nothing), times(5)}
	m := []api.Times{times(7, nothing), times(1, "ta")}
	want := []api.Times{times(35, nothing), times(21, nothing, nothing), times(3, nothing, "ta"), times(5, "ta"), times(14, "tb", nothing), times(2, "tb", "ta")}
	for _, on := range [][]at2{nil, {}} {
		joinsTo(t, l, m, on, want...)
	}
	joinsTo(t, []api.Times{times(2)}, []api.Times{times(3)}, nil, times(6))
	joinsTo(t, []api.Times{times(2, "ta")}, []api.Times{times(3)}, nil, times(6, "ta"))
	joinsTo(t, []api.Times{times(2)}, []api.Times{times(3, "ta")}, nil, times(6, "ta"))
	// Rows of other pieces may be the same together.
	joinsTo(t, []api.Times{times(2, "ta"), times(3, "ta", "tb")}, []api.Times{times(5, "tb", "tc"), times(7, "tc")}, nil,
		times(15, "ta", "tb", "tb", "tc"), times(10+21, "ta", "tb", "tc"), times(14, "ta", "tc"))
	joinsTo(t, []api.Times{times(2, "ta"), times(-1, "ta", "tb")}, []api.Times{times(3, "tb", "tc"), times(6, "tc")}, nil,
		times(-3, "ta", "tb", "tb", "tc"), times(12, "ta", "tc"))
}

// P19.1: a row that goes, joined with one that comes, goes; with one that goes it comes.
func TestJoinCountsTimesEachOther(t *testing.T) {
	on := []at2{{0, 0}}
	each := []int{-1 << 31, 1 - 1<<31, -1 << 20, -7, -2, -1, 0, 1, 2, 7, 1 << 20, 1<<31 - 1, 1 << 31}
	for _, n := range each {
		for _, many := range each {
			var want []api.Times
			if n*many != 0 {
				want = []api.Times{times(n*many, "ta", "ta")}
			}
			joinsTo(t, []api.Times{times(n, "ta")}, []api.Times{times(many, "ta")}, on, want...)
		}
	}
	joinsTo(t, []api.Times{times(most, "ta")}, []api.Times{times(1, "ta")}, on, times(most, "ta", "ta"))
	joinsTo(t, []api.Times{times(-1, "ta")}, []api.Times{times(most, "ta")}, on, times(-most, "ta", "ta"))
	joinsTo(t, []api.Times{times(most-1, "ta")}, []api.Times{times(-1, "ta")}, on, times(1-most, "ta", "ta"))
	joinsTo(t, []api.Times{times(1<<31-1, "ta")}, []api.Times{times(1<<31-1, "ta")}, on, times(most-1<<32+1, "ta", "ta"))
	// Rows that stand more than once count together, wherever they stand.
	joinsTo(t, []api.Times{times(2, "ta"), times(5, "tb"), times(1, "ta")}, []api.Times{times(4, "ta"), times(1, "tb"), times(-2, "ta"), times(1, "tb")}, on, times(6, "ta", "ta"), times(10, "tb", "tb"))
	joinsTo(t, []api.Times{times(2, "ta"), times(-2, "ta")}, []api.Times{times(4, "ta")}, on)
	joinsTo(t, []api.Times{times(4, "ta")}, []api.Times{times(-2, "ta"), times(2, "ta")}, on)
	joinsTo(t, []api.Times{times(2, "ta", "t1"), times(-2, "ta", "t2")}, []api.Times{times(4, "ta")}, on, times(8, "ta", "t1", "ta"), times(-8, "ta", "t2", "ta"))
}

// P19.1: in order, however they come: numbers as they stand, the first one's cells ahead of the second one's.
func TestJoinInOrder(t *testing.T) {
	rising := []string{nothing, "\x00", no, yes, cell.Int(math.MinInt), cell.Int(-1), cell.Int(0), cell.Int(1), cell.Int(math.MaxInt), "t", "ta", "ta\x00", "taa", "tb", "t\x7f", "t\x80", "t\xff", "x", "\xff"}
	var want, l, m []api.Times
	for i, c := range rising {
		l = append(l, times(i+1, c, "tj"))
		m = append(m, times(i+2, "tj", c))
		for j, d := range rising {
			want = append(want, times((i+1)*(j+2), c, "tj", "tj", d))
		}
	}
	for range rising {
		joinsTo(t, l, m, []at2{{1, 0}}, want...)
		slices.Reverse(m)
		joinsTo(t, l, m, []at2{{1, 0}}, want...)
		slices.Reverse(l)
		joinsTo(t, l, m, []at2{{1, 0}}, want...)
		l, m = append(l[1:], l[0]), append(m[2:], m[:2]...)
	}
}

// P19.1: rows that have longer ones, or no cell, beside them: what hasn't the column meets none.
func TestJoinWhereAColumnIs(t *testing.T) {
	l := []api.Times{times(2), times(3, "ta"), times(5, "ta", "tb"), times(7, "tb", "tb", "ta")}
	m := []api.Times{times(1, "ta"), times(1), times(1, "tb", "ta")}
	joinsTo(t, l, m, []at2{{0, 0}}, times(3, "ta", "ta"), times(5, "ta", "tb", "ta"), times(7, "tb", "tb", "ta", "tb", "ta"))
	joinsTo(t, l, m, []at2{{1, 0}}, times(5, "ta", "tb", "tb", "ta"), times(7, "tb", "tb", "ta", "tb", "ta"))
	joinsTo(t, l, m, []at2{{2, 0}}, times(7, "tb", "tb", "ta", "ta"))
	joinsTo(t, l, m, []at2{{0, 1}}, times(3, "ta", "tb", "ta"), times(5, "ta", "tb", "tb", "ta"))
	joinsTo(t, l, m, []at2{{2, 1}}, times(7, "tb", "tb", "ta", "tb", "ta"))
	for _, c := range []int{3, 4, 6, 7, 100, 1 << 32, math.MaxInt, -1, -2, -5, math.MinInt, -1 << 32} {
		for _, on := range [][]at2{{{c, 0}}, {{0, c}}, {{c, c}}, {{0, 0}, {c, 0}}, {{c, 0}, {0, 0}}, {{0, 0}, {0, c}}, {{0, c}, {0, 0}}} {
			joinsTo(t, l, m, on)
		}
	}
	// Nor does what is in a row's spare room.
	spare := row("ta", "tb")
	joinsTo(t, []api.Times{{Row: spare[:1], N: 1}}, []api.Times{{Row: spare[:1], N: 1}}, []at2{{1, 1}})
	joinsTo(t, []api.Times{{Row: spare[:1], N: 1}}, []api.Times{{Row: spare[:1], N: 1}}, []at2{{0, 0}}, times(1, "ta", "ta"))
}

// P19.1: cells side by side aren't one text, and each is held against its own.
func TestJoinTellsCellsApart(t *testing.T) {
	on := []at2{{0, 0}, {1, 1}}
	l := []api.Times{times(1, "ta", "tb"), times(2, "tat", "b"), times(3, "t", "atb"), times(4, "tb", "ta"), times(5, "tatb", nothing), times(6, nothing, "tatb")}
	joinsTo(t, l, l, on, times(9, "t", "atb", "t", "atb"), times(1, "ta", "tb", "ta", "tb"), times(4, "tat", "b", "tat", "b"), times(16, "tb", "ta", "tb", "ta"))
	joinsTo(t, l, l, []at2{{0, 1}, {1, 0}}, times(4, "ta", "tb", "tb", "ta"), times(4, "tb", "ta", "ta", "tb"))
	joinsTo(t, l, l, []at2{{0, 1}}, times(4, "ta", "tb", "tb", "ta"), times(30, "tatb", nothing, nothing, "tatb"), times(4, "tb", "ta", "ta", "tb"))
	// The same columns in another order, or once more, tell the same.
	for _, turned := range [][]at2{{{1, 1}, {0, 0}}, {{0, 0}, {1, 1}, {0, 0}}, {{1, 1}, {1, 1}, {0, 0}}} {
		joinsTo(t, l, l, turned, Join(l, l, on)...)
	}
}

// P19.1: however many columns are held against each other, each counts: what is unlike, nothing or not there at any place.
func TestJoinByManyColumns(t *testing.T) {
	for many := 1; many <= 15; many++ {
		var on []at2
		var full []string
		for i := range many {
			on = append(on, at2{i, many - 1 - i})
			full = append(full, cell.Int(i))
		}
		turned := slices.Clone(full)
		slices.Reverse(turned)
		l, m := []api.Times{{Row: full, N: 2}}, []api.Times{{Row: turned, N: 3}}
		joinsTo(t, l, m, on, times(6, slices.Concat(full, turned)...))
		meets(t, true, full, turned, on...)
		for i := range many {
			for _, c := range []string{nothing, "tx", cell.Int(i + 1)} {
				other := slices.Clone(full)
				other[i] = c
				joinsTo(t, []api.Times{{Row: other, N: 2}}, m, on)
				joinsTo(t, append(deep(l), api.Times{Row: other, N: 1}), m, on, times(6, slices.Concat(full, turned)...))
				slices.Reverse(other)
				joinsTo(t, l, []api.Times{{Row: other, N: 2}}, on)
				joinsTo(t, l, append(deep(m), api.Times{Row: other, N: 1}), on, times(6, slices.Concat(full, turned)...))
				// Nothing meets nothing at no place, even where all else is the same.
				if c == nothing {
					both := slices.Clone(full)
					both[i] = nothing
					joinsTo(t, []api.Times{{Row: both, N: 2}}, []api.Times{{Row: other, N: 2}}, on)
				}
			}
			for _, wrong := range []at2{{many, 0}, {0, many}, {-1, 0}, {0, -1}} {
				there := slices.Clone(on)
				there[i] = wrong
				joinsTo(t, l, m, there)
			}
		}
	}
}

// P19.1: rows of each length, with more than one partner: each has its own cells.
func TestJoinOfEachLength(t *testing.T) {
	for many := range 70 {
		full := slices.Repeat(row("ta"), many)
		l := []api.Times{{Row: full, N: 1}}
		m := []api.Times{times(2, "tb", "tx"), times(3, "tc", "ty"), times(4, "td", "tz")}
		var want, turned []api.Times
		for _, y := range m {
			want = append(want, times(y.N, append(slices.Clone(full), y.Row...)...))
			turned = append(turned, times(y.N, append(slices.Clone(y.Row), full...)...))
		}
		joinsTo(t, l, m, nil, want...)
		joinsTo(t, m, l, nil, turned...)
		if many > 0 {
			joinsTo(t, []api.Times{{Row: append(row("tb"), full...), N: 1}, {Row: append(row("tc"), full...), N: 1}}, append(m, times(1, "tc", "tw")), []at2{{0, 0}},
				times(2, append(append(row("tb"), full...), m[0].Row...)...), times(1, append(append(row("tc"), full...), "tc", "tw")...), times(3, append(append(row("tc"), full...), m[1].Row...)...))
		}
	}
}

// P19.1: all short lists, by all columns.
func TestJoinShortLists(t *testing.T) {
	rows := 0
	lists := listsOf(few(), 2)
	for _, on := range ons() {
		for _, l := range lists {
			for _, m := range lists {
				got, want := Join(l, m, on), joined(l, m, on)
				if !same(got, want) || !weigh.Right(got) {
					t.Fatalf("Join(%q, %q, %v) = %q, not %q", fmt.Sprint(l), fmt.Sprint(m), on, fmt.Sprint(got), fmt.Sprint(want))
				}
				rows += len(got)
			}
		}
	}
	if rows < 1000 {
		t.Errorf("just %d rows", rows)
	}
}

// P19.1: longer lists on one side, and on both.
func TestJoinLongerLists(t *testing.T) {
	var l, m []api.Times
	for i := range 60 {
		l = append(l, times(i%7-3, cell.Int(i*37%11), cell.Int(i%3), cell.Bool(i%2 == 0)))
		m = append(m, times(i%5-2, cell.Int(i%3), cell.Int(i*53%13)))
	}
	l, m = append(l, times(1, nothing, cell.Int(1), yes), times(2, cell.Int(1), nothing, no)), append(m, times(3, nothing, nothing), times(1, cell.Int(1), nothing))
	for _, on := range [][]at2{nil, {{0, 0}}, {{0, 1}}, {{1, 0}}, {{1, 1}}, {{0, 1}, {1, 0}}, {{1, 0}, {0, 1}}, {{0, 0}, {0, 1}}, {{2, 0}}} {
		for i := range 4 {
			joinsTo(t, l[i*15:], m[i*7:], on, joined(l[i*15:], m[i*7:], on)...)
		}
	}
}

// P19.1: a table joined with itself: each row with each that fits.
func TestJoinWithItself(t *testing.T) {
	l := []api.Times{times(1, cell.Int(1), cell.Int(2)), times(2, cell.Int(2), cell.Int(3)), times(1, cell.Int(2), cell.Int(1)), times(1, cell.Int(3), nothing), times(1, nothing, nothing)}
	joinsTo(t, l, l, []at2{{1, 0}},
		times(1, cell.Int(1), cell.Int(2), cell.Int(2), cell.Int(1)), times(2, cell.Int(1), cell.Int(2), cell.Int(2), cell.Int(3)),
		times(1, cell.Int(2), cell.Int(1), cell.Int(1), cell.Int(2)), times(2, cell.Int(2), cell.Int(3), cell.Int(3), nothing))
	joinsTo(t, l, l, []at2{{0, 0}, {1, 1}},
		times(1, cell.Int(1), cell.Int(2), cell.Int(1), cell.Int(2)), times(1, cell.Int(2), cell.Int(1), cell.Int(2), cell.Int(1)), times(4, cell.Int(2), cell.Int(3), cell.Int(2), cell.Int(3)))
	if got := Join(l, l, nil); len(got) != len(l)*len(l) {
		t.Errorf("%d rows of %d with themselves", len(got), len(l))
	}
}

// P19.2: of rows together, on either side, it is what it is of each, together.
func TestOfTogetherIsOfEachTogether(t *testing.T) {
	lists := listsOf(few(), 2)
	three := listsOf(few(), 1)
	for _, on := range ons() {
		for _, a := range lists {
			for _, b := range three {
				for _, m := range three {
					both := slices.Concat(a, b)
					want := weigh.Sum(Join(a, m, on), Join(b, m, on))
					if !same(Join(both, m, on), want) || !same(Join(weigh.Of(both), m, on), want) {
						t.Fatalf("Join of %q and %q with %q, %v", fmt.Sprint(a), fmt.Sprint(b), fmt.Sprint(m), on)
					}
					want = weigh.Sum(Join(m, a, on), Join(m, b, on))
					if !same(Join(m, both, on), want) || !same(Join(m, weigh.Sum(a, b), on), want) {
						t.Fatalf("Join of %q with %q and %q, %v", fmt.Sprint(m), fmt.Sprint(a), fmt.Sprint(b), on)
					}
				}
			}
		}
	}
}

// P19.2: on both sides at once: what comes to both is joined with what was there, and with what came.
func TestOfTogetherOnBothSides(t *testing.T) {
	lists := listsOf(few(), 1)
	for _, on := range ons() {
		for _, a := range lists {
			for _, b := range lists {
				for _, c := range lists {
					for _, d := range lists {
						each := slices.Concat(Join(a, c, on), Join(a, d, on), Join(b, c, on), Join(b, d, on))
						if got := Join(weigh.Sum(a, b), weigh.Sum(c, d), on); !same(got, weigh.Of(each)) {
							t.Fatalf("Join of %q and %q with %q and %q, %v", fmt.Sprint(a), fmt.Sprint(b), fmt.Sprint(c), fmt.Sprint(d), on)
						}
					}
				}
			}
		}
	}
}

// P19.2: of each row alone, with each alone, together; the other way round; and so often.
func TestOfEachRowTogether(t *testing.T) {
	lists := listsOf(few(), 2)
	for _, on := range [][]at2{nil, {{0, 0}}, {{1, 0}}, {{0, 0}, {1, 1}}} {
		for _, l := range lists {
			for _, m := range lists {
				var each []api.Times
				for _, x := range l {
					for _, y := range m {
						each = append(each, Join([]api.Times{x}, []api.Times{y}, on)...)
					}
				}
				got := Join(l, m, on)
				if !same(got, weigh.Of(each)) {
					t.Fatalf("Join of %q with %q, %v: %q", fmt.Sprint(l), fmt.Sprint(m), on, fmt.Sprint(got))
				}
				less := weigh.Minus(got)
				if !same(Join(weigh.Minus(l), m, on), less) || !same(Join(l, weigh.Minus(m), on), less) || !same(Join(weigh.Minus(l), weigh.Minus(m), on), got) {
					t.Fatalf("Join of %q with %q the other way round, %v", fmt.Sprint(l), fmt.Sprint(m), on)
				}
				thrice := weigh.Sum(got, weigh.Sum(got, got))
				if !same(Join(slices.Repeat(l, 3), m, on), thrice) || !same(Join(l, slices.Repeat(m, 3), on), thrice) || len(Join(slices.Concat(l, weigh.Minus(l)), m, on)) != 0 {
					t.Fatalf("Join of %q with %q, three times, or none, %v", fmt.Sprint(l), fmt.Sprint(m), on)
				}
			}
		}
	}
}

// P19.2: in whatever order rows come, on either side.
func TestOrderIsAllOne(t *testing.T) {
	l := []api.Times{times(2, "tb", "t1"), times(1, "ta", "t1"), times(-3, "tb", "t2"), times(1, "ta"), times(1, "tb", "t1"), times(4)}
	m := []api.Times{times(1, "t1", "ta"), times(2, "t2", nothing), times(-1, "t1", "tz"), times(5)}
	want := []api.Times{times(1, "ta", "t1", "t1", "ta"), times(-1, "ta", "t1", "t1", "tz"), times(3, "tb", "t1", "t1", "ta"), times(-3, "tb", "t1", "t1", "tz"), times(-6, "tb", "t2", "t2", nothing)}
	for i, in := range ordersOf(l) {
		joinsTo(t, in, m, []at2{{1, 0}}, want...)
		joinsTo(t, in, ordersOf(m)[i%24], []at2{{1, 0}}, want...)
	}
}

// P19.1: it is what is left of each with each where the condition that the columns are the same is yes.
func TestJoinIsFilterOfEach(t *testing.T) {
	var l, m []api.Times
	for _, cells := range [][]string{{"ta", "tb"}, {"ta", nothing}, {"tb", "tb"}, {nothing, "ta"}, {nothing, nothing}, {"tc", "ta"}} {
		l, m = append(l, times(len(l)+1, cells...)), append(m, times(2-len(m), cells...))
	}
	for _, on := range listsOf([]at2{{0, 0}, {0, 1}, {1, 0}, {1, 1}, {2, 0}}, 3) {
		all := api.Term{Op: 'k', Cell: yes}
		for _, c := range on {
			// A column beyond the first one's is none, though both together have one there.
			left := api.Term{Op: 'c', Col: c[0]}
			if c[0] > 1 {
				left = api.Term{Op: 'k'}
			}
			all = api.Term{Op: '&', Kids: []api.Term{all, {Op: '=', Kids: []api.Term{left, {Op: 'c', Col: 2 + c[1]}}}}}
		}
		joinsTo(t, l, m, on, sieve.Filter(Join(l, m, nil), all)...)
	}
}

// P19.1: with both tables the other way round it has the same rows, their cells in the other order.
func TestJoinTurned(t *testing.T) {
	l := []api.Times{times(1, "ta", "tb"), times(2, "tb", "ta"), times(-1, "tb", "tb"), times(1, nothing, "tb")}
	m := []api.Times{times(3, "tb", "ta", "tz"), times(1, "ta", "ta", "ty"), times(2, "tb", nothing, "tz")}
	for _, on := range listsOf([]at2{{0, 0}, {0, 1}, {1, 0}, {1, 1}}, 3) {
		turned := slices.Clone(on)
		for i, c := range on {
			turned[i] = at2{c[1], c[0]}
		}
		joinsTo(t, l, m, on, sieve.Project(Join(m, l, turned), []int{3, 4, 0, 1, 2})...)
	}
}

// Very many rows: each with its own alone, and one with each.
func TestVeryManyRows(t *testing.T) {
	const many = 1 << 16
	var l, m []api.Times
	for i := range many {
		l = append(l, times(1, cell.Int(i*54321%many), "tl"))
		m = append(m, times(2, "tm", cell.Int(i*12345%many)))
	}
	got := Join(l, m, []at2{{0, 1}})
	if len(got) != many {
		t.Fatalf("%d rows", len(got))
	}
	for i, x := range got {
		if x.N != 2 || !slices.Equal(x.Row, row(cell.Int(i), "tl", "tm", cell.Int(i))) {
			t.Fatalf("row %d is %q", i, fmt.Sprint(x))
		}
	}
	one := []api.Times{times(3, "tm")}
	for _, got := range [][]api.Times{Join(one, m, []at2{{0, 0}}), Join(m, one, []at2{{0, 0}}), Join(one, m, nil)} {
		if len(got) != many || !weigh.Right(got) || got[many-1].N != 6 {
			t.Fatalf("%d rows", len(got))
		}
	}
	// Rows that stand very often count as one that is there so often.
	often := slices.Repeat([]api.Times{times(1, "ta")}, many)
	joinsTo(t, often, often, []at2{{0, 0}}, times(many*many, "ta", "ta"))
	joinsTo(t, often, often, nil, times(many*many, "ta", "ta"))
}

// Very many columns, and very many that are held against each other.
func TestVeryManyColumns(t *testing.T) {
	const many = 1 << 16
	on, full := make([]at2, many), make([]string, many)
	for i := range many {
		on[i], full[i] = at2{i, many - 1 - i}, cell.Int(i)
	}
	turned := slices.Clone(full)
	slices.Reverse(turned)
	l, m := []api.Times{{Row: full, N: 2}}, []api.Times{{Row: turned, N: 3}, {Row: turned[1:], N: 1}}
	joinsTo(t, l, m, on, times(6, slices.Concat(full, turned)...))
	on[many-1] = at2{0, 0}
	joinsTo(t, l, m, on)
	meets(t, false, full, turned, on...)
	joinsTo(t, []api.Times{times(1, "ta")}, []api.Times{times(1, "ta")}, make([]at2, many), times(1, "ta", "ta"))
}

// Wrong lists and columns: a call ends, whatever it is given.
func TestWhateverIsGiven(t *testing.T) {
	l := append(few(), times(math.MaxInt, "ta"), times(math.MaxInt, "ta"), times(math.MinInt, "tb"), times(math.MinInt, "tb"), times(math.MinInt, "x"), api.Times{}, times(1, strings.Repeat("x", 1<<16)), times(1, make([]string, 1<<10)...))
	ends := []int{0, 1, -1, 5, math.MaxInt, math.MinInt}
	lists := [][]api.Times{nil, l, make([]api.Times, 300)}
	for _, c := range ends {
		for _, d := range ends {
			for _, in := range lists {
				for _, other := range lists {
					Join(in, other, []at2{{c, d}})
					Join(in, other, []at2{{0, 0}, {c, d}, {d, c}})
					Join(in, other, slices.Repeat([]at2{{c, d}}, 9))
				}
			}
			Meets(nil, nil, []at2{{c, d}})
			Meets(row("ta"), nil, []at2{{c, d}})
			Meets(nil, row("ta"), []at2{{c, d}})
		}
	}
}

// answers are what Join answers of both, each way.
func answers(l, m []api.Times, on []at2) [][]api.Times {
	return [][]api.Times{Join(l, m, on), Join(l, m, nil), Join(m, l, nil), Join(l, l, []at2{{0, 0}}), Join(l, l, nil), Join(l[1:], m, on), Join(l, m[:1], on), Join(l[:1], m[:1], nil), Join(l, m, slices.Repeat(on, 9))}
}

// changeAll changes each row of a list, its spare room too.
func changeAll(l []api.Times) {
	for i := range l {
		all := l[i].Row[:cap(l[i].Row)]
		for j := range all {
			all[j] = "changed"
		}
		l[i] = times(-99, "changed")
	}
}

// asIs is a text that has all of a list, its spare room too.
func asIs(l []api.Times) string {
	var b strings.Builder
	for _, x := range l[:cap(l)] {
		b.WriteString(fmt.Sprintf("%d %q %d; ", x.N, x.Row[:cap(x.Row)], len(x.Row)))
	}
	return b.String()
}

// given are rows of both sides, and columns, with spare room in, and behind.
func given() ([]api.Times, []api.Times, []at2) {
	l := []api.Times{times(2, "tb", "tx", "spare"), times(1, "ta", "tx", "spare"), times(-2, "tb", "ty", "spare"), times(1, "tb", "tx", "spare"), times(9, "spare"), times(8, "spare")}
	m := []api.Times{times(3, "tz", "tb", "spare"), times(1, "tx", "tb", "spare"), times(1, "tx", "ta", "spare"), times(5, "spare")}
	for i := range 4 {
		l[i].Row = l[i].Row[:2]
	}
	for i := range 3 {
		m[i].Row = m[i].Row[:2]
	}
	return l[:4], m[:3], []at2{{0, 1}, {7, 7}}[:1]
}

// What is handed in isn't changed, its spare room neither, and answers are new memory.
func TestNothingIsChangedOrShared(t *testing.T) {
	l, m, on := given()
	was, wasM, were := asIs(l), asIs(m), slices.Clone(on[:2])
	want := answers(given())
	for range 2 {
		got := answers(l, m, on)
		for i := range got {
			if len(got[i]) == 0 || !same(got[i], want[i]) {
				t.Fatalf("answer %d is %q, not %q", i, fmt.Sprint(got[i]), fmt.Sprint(want[i]))
			}
			changeAll(got[i])
			_ = append(got[i], times(-99, "more"))
		}
		Meets(l[0].Row, m[0].Row, on)
		if asIs(l) != was || asIs(m) != wasM || !slices.Equal(on[:2], were) {
			t.Fatalf("%s, %s, %v", asIs(l), asIs(m), on[:2])
		}
	}
	got := answers(l, m, on)
	changeAll(l)
	changeAll(m)
	on[0] = at2{5, 6}
	for i := range got {
		if !same(got[i], want[i]) {
			t.Fatalf("answer %d hangs on what was handed in: %q", i, fmt.Sprint(got[i]))
		}
	}
}

// No two rows of an answer share cells, their spare room neither.
func TestRowsOfAnAnswerShareNothing(t *testing.T) {
	l, m, on := given()
	for i, got := range append(answers(l, m, on), Join(l, []api.Times{times(1)}, nil), Join([]api.Times{times(1)}, l, nil)) {
		for changed := range got {
			was := deep(got)
			changeAll(got[changed : changed+1])
			was[changed] = got[changed]
			if !same(got, was) {
				t.Errorf("row %d of answer %d changed others: %q", changed, i, fmt.Sprint(got))
			}
		}
	}
}

// Nothing is kept from call to call: what was asked ahead is all one.
func TestNothingIsKept(t *testing.T) {
	l, m, on := given()
	want := answers(given())
	for _, other := range ons() {
		Join(few(), few(), other)
		Join(m, l, other)
		if !slices.EqualFunc(answers(l, m, on), want, same) {
			t.Fatalf("behind a call on %v answers are others", other)
		}
	}
}

// Any number of goroutines may call at once, of the same rows too.
func TestAtOnce(t *testing.T) {
	l, m, on := given()
	want := answers(given())
	var all sync.WaitGroup
	for range 8 {
		all.Go(func() {
			for range 100 {
				if !slices.EqualFunc(answers(l, m, on), want, same) || !Meets(l[0].Row, m[0].Row, on) {
					t.Error("calls at once aren't as one alone")
				}
			}
		})
	}
	all.Wait()
}
