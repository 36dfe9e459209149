package weigh

import (
	"math"
	"slices"
	"strconv"
	"strings"
	"testing"

	"distiller/api"
	"distiller/cell"
)

// most is how often rows may be there together.
const most = 1 << 62

// at is a row of these cells, so often.
func at(n int, row ...string) api.Times {
	return api.Times{Row: row, N: n}
}

// listsOf are all lists of up to most of these.
func listsOf[T any](these []T, most int) [][]T {
	var l [][]T
	var all func(ahead []T)
	all = func(ahead []T) {
		l = append(l, ahead)
		if len(ahead) == most {
			return
		}
		for _, x := range these {
			all(append(slices.Clip(ahead), x))
		}
	}
	all(nil)
	return l
}

// ordersOf are all orders of these.
func ordersOf(these []api.Times) [][]api.Times {
	if len(these) == 0 {
		return [][]api.Times{nil}
	}
	var l [][]api.Times
	for i, x := range these {
		for _, others := range ordersOf(slices.Concat(these[:i], these[i+1:])) {
			l = append(l, append([]api.Times{x}, others...))
		}
	}
	return l
}

// key is a text by which rows are told apart: each cell behind how long it is.
func key(row []string) string {
	var b strings.Builder
	for _, c := range row {
		b.WriteString(strconv.Itoa(len(c)) + ":" + c)
	}
	return b.String()
}

// ahead tells whether a row stands ahead of another one: by the first cell that is unlike, else the shorter one.
func ahead(a, b []string) bool {
	for i := 0; i < len(a) && i < len(b); i++ {
		if a[i] != b[i] {
			return a[i] < b[i]
		}
	}
	return len(a) < len(b)
}

// together is what Of is to be: counted by a map.
func together(l ...api.Times) []api.Times {
	many, rows := map[string]int{}, map[string][]string{}
	for _, x := range l {
		many[key(x.Row)] += x.N
		rows[key(x.Row)] = x.Row
	}
	var out []api.Times
	for k, n := range many {
		if n != 0 {
			out = append(out, api.Times{Row: rows[k], N: n})
		}
	}
	slices.SortFunc(out, func(a, b api.Times) int {
		if ahead(a.Row, b.Row) {
			return -1
		}
		return 1
	})
	return out
}

// same tells whether two lists have the same rows, as often, as they stand.
func same(a, b []api.Times) bool {
	return slices.EqualFunc(a, b, func(x, y api.Times) bool { return x.N == y.N && slices.Equal(x.Row, y.Row) })
}

// deep is the list in memory of its own.
func deep(l []api.Times) []api.Times {
	out := make([]api.Times, len(l))
	for i, x := range l {
		out[i] = api.Times{Row: slices.Clone(x.Row), N: x.N}
	}
	return out
}

// rising are rows as they stand: of no cell, of nothing, of each kind, of texts that are no cells, and longer ones behind what they begin with.
func rising() [][]string {
	return [][]string{
		nil, {""}, {"", ""}, {"", "ta"}, {"\x00"}, {cell.Bool(false)}, {cell.Bool(true)}, {cell.Int(math.MinInt)}, {cell.Int(-1), "tz"}, {cell.Int(0)},
		{"t"}, {"ta"}, {"ta", ""}, {"ta", "tb"}, {"ta", "tb", "tc", "td", "te", "tf"}, {"ta", "tb", "tc", "td", "te", "tf", "tg"}, {"ta", "tc"}, {"ta\x00"}, {"taa"}, {"tb"}, {"t\xff"}, {"x"},
	}
}

// few are rows that come, and go, side by side, and such as are there 0 times.
func few() []api.Times {
	return []api.Times{at(1, "ta"), at(-1, "ta"), at(2, "tb"), at(-2, "tb"), at(0, "ta"), at(1), at(-1, "ta", ""), at(3, "t")}
}

// P10.1: written out: with it, with more of it, without it, and such as changes nothing.
func TestPutWrittenOut(t *testing.T) {
	two := []api.Times{at(2, "tb"), at(-1, "td")}
	for _, x := range []struct {
		l    []api.Times
		x    api.Times
		want []api.Times
	}{
		{nil, at(1, "ta"), []api.Times{at(1, "ta")}}, {[]api.Times{}, at(-3, "ta"), []api.Times{at(-3, "ta")}}, {nil, at(0, "ta"), nil}, {nil, at(1), []api.Times{at(1)}}, {nil, at(0), nil},
		{two, at(5, "ta"), []api.Times{at(5, "ta"), at(2, "tb"), at(-1, "td")}}, {two, at(5, "tc"), []api.Times{at(2, "tb"), at(5, "tc"), at(-1, "td")}}, {two, at(5, "te"), []api.Times{at(2, "tb"), at(-1, "td"), at(5, "te")}},
		{two, at(0, "ta"), two}, {two, at(0, "tb"), two}, {two, at(0, "tc"), two}, {two, at(0, "td"), two}, {two, at(0, "te"), two}, {two, at(0), two},
		{two, at(1, "tb"), []api.Times{at(3, "tb"), at(-1, "td")}}, {two, at(-1, "tb"), []api.Times{at(1, "tb"), at(-1, "td")}}, {two, at(-2, "tb"), []api.Times{at(-1, "td")}}, {two, at(-3, "tb"), []api.Times{at(-1, "tb"), at(-1, "td")}},
		{two, at(1, "td"), []api.Times{at(2, "tb")}}, {two, at(2, "td"), []api.Times{at(2, "tb"), at(1, "td")}}, {two, at(-2, "td"), []api.Times{at(2, "tb"), at(-3, "td")}},
		{two[:1], at(-2, "tb"), nil}, {two[1:], at(1, "td"), []api.Times{}}, {two[:1], at(-2, "tb", ""), []api.Times{at(2, "tb"), at(-2, "tb", "")}}, {two[:1], at(-2), []api.Times{at(-2), at(2, "tb")}}, {two[:1], at(-2, "t"), []api.Times{at(-2, "t"), at(2, "tb")}},
		{[]api.Times{at(1)}, at(-1), nil}, {[]api.Times{at(1)}, at(2, []string{}...), []api.Times{at(3)}}, {[]api.Times{at(1)}, at(-1, ""), []api.Times{at(1), at(-1, "")}},
		{[]api.Times{at(1, "ta", "tb")}, at(-1, "ta", "tb"), nil}, {[]api.Times{at(1, "ta", "tb")}, at(-1, "tatb"), []api.Times{at(1, "ta", "tb"), at(-1, "tatb")}}, {[]api.Times{at(1, "ta", "tb")}, at(4, "tb", "ta"), []api.Times{at(1, "ta", "tb"), at(4, "tb", "ta")}},
		{[]api.Times{at(most-1, "ta")}, at(1, "ta"), []api.Times{at(most, "ta")}}, {[]api.Times{at(most, "ta")}, at(-most, "ta"), nil}, {[]api.Times{at(-most, "ta")}, at(most-1, "ta"), []api.Times{at(-1, "ta")}}, {[]api.Times{at(1<<32, "ta")}, at(1, "ta"), []api.Times{at(1<<32+1, "ta")}},
	} {
		if got := Put(x.l, x.x); !same(got, x.want) {
			t.Errorf("Put(%#v, %#v) = %#v, not %#v", x.l, x.x, got, x.want)
		}
	}
}

// P10.1: each row, there and not there, at each place of lists of each length.
func TestPutAtEachPlace(t *testing.T) {
	rows := rising()
	for step := 1; step <= len(rows); step++ {
		var l []api.Times
		for i := 0; i < len(rows); i += step {
			l = append(l, at(3, rows[i]...))
		}
		for _, row := range rows {
			for _, n := range []int{-4, -3, -2, 0, 1, 1 << 40} {
				x := at(n, row...)
				if got, want := Put(l, x), together(append(slices.Clip(l), x)...); !same(got, want) {
					t.Fatalf("Put(%#v, %#v) = %#v, not %#v", l, x, got, want)
				}
			}
		}
	}
}

// P10.1, P10.2: whatever is put, one behind the other, the rows are in order, and as often as all of it.
func TestPutOneBehindTheOther(t *testing.T) {
	for _, l := range listsOf(few(), 5) {
		var got []api.Times
		for _, x := range l {
			got = Put(got, x)
		}
		if want := together(l...); !same(got, want) || !Right(got) {
			t.Fatalf("%#v put = %#v, not %#v", l, got, want)
		}
	}
}

// P10.1: written out: each row once, in order, and none that is left 0 times.
func TestOfWrittenOut(t *testing.T) {
	for _, x := range []struct{ l, want []api.Times }{
		{nil, nil}, {[]api.Times{}, nil}, {[]api.Times{at(0, "ta")}, nil}, {[]api.Times{at(0), at(0, "")}, nil}, {[]api.Times{at(7, "ta")}, []api.Times{at(7, "ta")}}, {[]api.Times{at(-7, "ta")}, []api.Times{at(-7, "ta")}},
		{[]api.Times{at(2, "tb"), at(1, "ta"), at(-2, "tb")}, []api.Times{at(1, "ta")}}, {[]api.Times{at(2, "tb"), at(1, "ta"), at(-2, "tb"), at(-1, "tc")}, []api.Times{at(1, "ta"), at(-1, "tc")}},
		{[]api.Times{at(1, "tb"), at(1, "tb"), at(1, "tb")}, []api.Times{at(3, "tb")}}, {[]api.Times{at(1, "tb"), at(-2, "tb")}, []api.Times{at(-1, "tb")}}, {[]api.Times{at(1, "ta"), at(-1, "ta"), at(1, "ta")}, []api.Times{at(1, "ta")}}, {[]api.Times{at(1, "ta"), at(-1, "ta"), at(0, "ta")}, nil},
		{[]api.Times{at(1, "ta", ""), at(1, "ta"), at(1, "", "ta"), at(1, ""), at(1)}, []api.Times{at(1), at(1, ""), at(1, "", "ta"), at(1, "ta"), at(1, "ta", "")}},
		{[]api.Times{at(1), at(1, []string{}...), at(2, "")}, []api.Times{at(2), at(2, "")}}, {[]api.Times{at(1, "ta", "tb"), at(1, "tatb"), at(-1, "ta", "tb")}, []api.Times{at(1, "tatb")}},
		{[]api.Times{at(1, "x"), at(1, "\x00"), at(1, "\xff"), at(1, "t\x80"), at(1, "t\x7f")}, []api.Times{at(1, "\x00"), at(1, "t\x7f"), at(1, "t\x80"), at(1, "x"), at(1, "\xff")}},
		{[]api.Times{at(1, cell.Int(1)), at(1, cell.Int(-1)), at(1, cell.Int(0))}, []api.Times{at(1, cell.Int(-1)), at(1, cell.Int(0)), at(1, cell.Int(1))}},
		{[]api.Times{at(most-1, "ta"), at(1, "ta"), at(-most, "tb")}, []api.Times{at(most, "ta"), at(-most, "tb")}}, {[]api.Times{at(most, "ta"), at(-most, "ta")}, nil}, {[]api.Times{at(1<<32, "ta")}, []api.Times{at(1<<32, "ta")}},
	} {
		if got := Of(x.l); !same(got, x.want) {
			t.Errorf("Of(%#v) = %#v, not %#v", x.l, got, x.want)
		}
	}
}

// P10.1: all short lists, those in order and those that aren't.
func TestOfShortLists(t *testing.T) {
	for _, l := range listsOf(few(), 5) {
		if got, want := Of(l), together(l...); !same(got, want) {
			t.Fatalf("Of(%#v) = %#v, not %#v", l, got, want)
		}
	}
}

// P10.1: rows laid out as they stand stay so, from whatever end they come.
func TestOfPutsInOrder(t *testing.T) {
	var l []api.Times
	for i, row := range rising() {
		l = append(l, at(i+1, row...))
	}
	for start := range l {
		turned := slices.Concat(l[start:], l[:start])
		if got := Of(turned); !same(got, l) {
			t.Fatalf("Of(%#v) = %#v", turned, got)
		}
		slices.Reverse(turned)
		if got := Of(turned); !same(got, l) {
			t.Fatalf("Of(%#v) = %#v", turned, got)
		}
	}
}

// P10.1: of two lists, in whatever order each of them stands.
func TestSumIsOfBoth(t *testing.T) {
	lists := listsOf(few(), 2)
	for _, a := range lists {
		for _, b := range lists {
			if got, want := Sum(a, b), together(slices.Concat(a, b)...); !same(got, want) {
				t.Fatalf("Sum(%#v, %#v) = %#v, not %#v", a, b, got, want)
			}
		}
	}
	if got := Sum([]api.Times{at(1, "ta"), at(-1, "tc")}, []api.Times{at(1, "tc")}); !same(got, []api.Times{at(1, "ta")}) {
		t.Errorf("Sum = %#v", got)
	}
	if len(Sum(nil, nil)) != 0 || len(Sum([]api.Times{}, nil)) != 0 || len(Sum(nil, []api.Times{at(0, "ta")})) != 0 {
		t.Error("Sum of none has rows")
	}
}

// P10.1: as they stand: in no order, more than once, and 0 times too.
func TestMinusStaysAsItStands(t *testing.T) {
	for _, x := range []struct{ l, want []api.Times }{
		{nil, nil}, {[]api.Times{}, nil}, {[]api.Times{at(1, "ta")}, []api.Times{at(-1, "ta")}}, {[]api.Times{at(-5, "ta", "")}, []api.Times{at(5, "ta", "")}}, {[]api.Times{at(0, "ta")}, []api.Times{at(0, "ta")}}, {[]api.Times{at(2)}, []api.Times{at(-2)}},
		{[]api.Times{at(1, "tb"), at(2, "ta"), at(-3, "tb"), at(3, "tb")}, []api.Times{at(-1, "tb"), at(-2, "ta"), at(3, "tb"), at(-3, "tb")}},
		{[]api.Times{at(most, "ta"), at(-most, "x")}, []api.Times{at(-most, "ta"), at(most, "x")}}, {[]api.Times{at(math.MaxInt, "ta")}, []api.Times{at(-math.MaxInt, "ta")}},
	} {
		if got := Minus(x.l); !same(got, x.want) {
			t.Errorf("Minus(%#v) = %#v, not %#v", x.l, got, x.want)
		}
	}
	for _, l := range listsOf(few(), 4) {
		got := Minus(l)
		if !same(Minus(got), l) {
			t.Fatalf("Minus(%#v) = %#v", l, got)
		}
		for i, x := range got {
			if x.N != -l[i].N || !slices.Equal(x.Row, l[i].Row) {
				t.Fatalf("Minus(%#v) = %#v", l, got)
			}
		}
	}
}

// P10.1: written out: none is there twice, none 0 times, and each stands behind the one ahead.
func TestRightWrittenOut(t *testing.T) {
	for _, l := range [][]api.Times{
		nil, {}, {at(1)}, {at(-1, "")}, {at(1, "ta")}, {at(-1, "ta")}, {at(math.MinInt, "ta")}, {at(math.MaxInt, "x")}, {at(1, "ta"), at(-1, "tb")}, {at(-1, "ta"), at(1, "ta", "")}, {at(1), at(1, ""), at(1, "", "")},
		{at(1, cell.Int(-1)), at(5, cell.Int(0))}, {at(1, "ta"), at(1, "tb"), at(1, "tc")}, {at(1, "ta", "tz"), at(1, "tb", "ta")}, {at(9, "ta"), at(1, "tb")},
	} {
		if !Right(l) {
			t.Errorf("Right(%#v) is false", l)
		}
	}
	for _, l := range [][]api.Times{
		{at(0)}, {at(0, "ta")}, {at(0, "ta"), at(1, "tb")}, {at(1, "ta"), at(0, "tb")}, {at(1, "ta"), at(0, "tb"), at(1, "tc")},
		{at(1, "ta"), at(1, "ta")}, {at(1, "ta"), at(-1, "ta")}, {at(1, "ta"), at(2, "ta")}, {at(1), at(1, []string{}...)}, {at(1, "tb"), at(1, "ta")}, {at(-1, "tb"), at(1, "ta")}, {at(1, "ta", ""), at(1, "ta")}, {at(1, ""), at(1)},
		{at(1, "ta"), at(1, "tc"), at(1, "tb")}, {at(1, "tb"), at(1, "ta"), at(1, "tc")}, {at(1, "ta"), at(1, "tb"), at(1, "tb")}, {at(1, "ta"), at(1, "tb"), at(1, "ta")}, {at(1, "ta"), at(1, "ta"), at(1, "tb")},
	} {
		if Right(l) {
			t.Errorf("Right(%#v) is true", l)
		}
	}
}

// P10.1: all short lists: just those that Of leaves as they are are in order.
func TestRightOfShortLists(t *testing.T) {
	for _, l := range listsOf(few(), 5) {
		if got := Right(l); got != same(l, together(l...)) {
			t.Fatalf("Right(%#v) = %v", l, got)
		}
	}
}

// P10.1: one wrong place is told, wherever it is.
func TestRightAtEachPlace(t *testing.T) {
	var l []api.Times
	for i, row := range rising() {
		l = append(l, at(i-100, row...))
	}
	for i := range l {
		if !Right(l[i:]) || !Right(l[:i]) {
			t.Fatalf("Right(%#v), or Right(%#v), is false", l[i:], l[:i])
		}
		with := deep(l)
		with[i].N = 0
		if Right(with) {
			t.Fatalf("Right(%#v) is true", with)
		}
		if Right(slices.Insert(deep(l), i, l[i])) {
			t.Fatalf("Right with %#v twice is true", l[i])
		}
		for j := range i {
			with := deep(l)
			with[i], with[j] = with[j], with[i]
			if Right(with) {
				t.Fatalf("Right(%#v) is true", with)
			}
		}
	}
}

// P10.1: written out: 0 times is whole; in which order they stand, and how often each, is all one.
func TestWholeWrittenOut(t *testing.T) {
	for _, l := range [][]api.Times{
		nil, {}, {at(0)}, {at(1)}, {at(0, "ta"), at(0, "ta")}, {at(1, "ta"), at(2, "tb")}, {at(2, "tb"), at(1, "ta"), at(0, "x")}, {at(math.MaxInt, "ta")},
	} {
		if !Whole(l) {
			t.Errorf("Whole(%#v) is false", l)
		}
	}
	for _, l := range [][]api.Times{
		{at(-1)}, {at(-1, "ta")}, {at(math.MinInt, "ta")}, {at(1, "ta"), at(-1, "tb")}, {at(-1, "ta"), at(1, "tb")}, {at(1, "ta"), at(-1, "tb"), at(1, "tc")}, {at(2, "ta"), at(-1, "ta")}, {at(-2, "ta"), at(3, "ta")},
	} {
		if Whole(l) {
			t.Errorf("Whole(%#v) is true", l)
		}
	}
}

// P10.1: all short lists: whether one of them is below 0.
func TestWholeOfShortLists(t *testing.T) {
	for _, l := range listsOf(few(), 5) {
		least := 0
		for _, x := range l {
			least = min(least, x.N)
		}
		if got := Whole(l); got != (least == 0) {
			t.Fatalf("Whole(%#v) = %v", l, got)
		}
	}
}

// P10.1: written out: a row that isn't there, one that goes, one that is there more than once, in whatever order.
func TestFindWrittenOut(t *testing.T) {
	l := []api.Times{at(2, "tb"), at(1, "ta"), at(-5, "tb"), at(4, "tc"), at(0, "td"), at(1), at(3, "ta", "tb"), at(-1, ""), at(1, "tb")}
	for _, x := range []struct {
		l    []api.Times
		row  []string
		want int
	}{
		{nil, nil, 0}, {[]api.Times{}, []string{"ta"}, 0}, {l, []string{"ta"}, 1}, {l, []string{"tb"}, -2}, {l, []string{"tc"}, 4}, {l, []string{"td"}, 0}, {l, []string{"te"}, 0}, {l, nil, 1}, {l, []string{}, 1}, {l, []string{""}, -1}, {l, []string{"", ""}, 0},
		{l, []string{"ta", "tb"}, 3}, {l, []string{"tatb"}, 0}, {l, []string{"tb", "ta"}, 0}, {l, []string{"ta", ""}, 0}, {l, []string{"t"}, 0}, {l, []string{"T"}, 0}, {l, []string{"ta", "tb", "tc"}, 0},
		{[]api.Times{at(2, "ta"), at(-2, "ta")}, []string{"ta"}, 0}, {[]api.Times{at(most-1, "ta"), at(1, "ta")}, []string{"ta"}, most}, {[]api.Times{at(-most, "ta")}, []string{"ta"}, -most}, {[]api.Times{at(1, "\xff")}, []string{"\xff"}, 1}, {[]api.Times{at(1, "\xff")}, []string{"\xfe"}, 0},
	} {
		if got := Find(x.l, x.row); got != x.want {
			t.Errorf("Find(%#v, %#v) = %d, not %d", x.l, x.row, got, x.want)
		}
	}
}

// P10.1: all short lists: each row, those of them that aren't there too.
func TestFindInShortLists(t *testing.T) {
	for _, l := range listsOf(few(), 4) {
		for _, row := range [][]string{nil, {"ta"}, {"tb"}, {"ta", ""}, {"t"}, {""}, {"tc"}} {
			want := 0
			for _, x := range l {
				if slices.Equal(x.Row, row) {
					want += x.N
				}
			}
			if got := Find(l, row); got != want {
				t.Fatalf("Find(%#v, %#v) = %d, not %d", l, row, got, want)
			}
		}
	}
}

// P10.1: each of rows in order, at whatever place, and those that stand between.
func TestFindInOrder(t *testing.T) {
	rows := rising()
	var l []api.Times
	for i := 0; i < len(rows); i += 2 {
		l = append(l, at(i-1, rows[i]...))
	}
	for i, row := range rows {
		want := 0
		if i%2 == 0 {
			want = i - 1
		}
		if got := Find(l, row); got != want {
			t.Errorf("Find(%#v, %#v) = %d, not %d", l, row, got, want)
		}
	}
}

// P10.2: in whatever order rows come, and however they are split, they are the same.
func TestOrderIsAllOne(t *testing.T) {
	l := []api.Times{at(2, "tb"), at(1, "ta"), at(-3, "tb"), at(1, "ta", ""), at(1, "tb"), at(4)}
	want := []api.Times{at(4), at(1, "ta"), at(1, "ta", "")}
	for _, in := range ordersOf(l) {
		if got := Of(in); !same(got, want) {
			t.Fatalf("Of(%#v) = %#v", in, got)
		}
		for i := range in {
			if got := Sum(in[:i], in[i:]); !same(got, want) {
				t.Fatalf("Sum(%#v, %#v) = %#v", in[:i], in[i:], got)
			}
			if got := Sum(Of(in[i:]), Of(in[:i])); !same(got, want) {
				t.Fatalf("Sum of Of(%#v) and Of(%#v) = %#v", in[i:], in[:i], got)
			}
		}
	}
}

// P10.2: with their other way round nothing is left.
func TestOtherWayRoundLeavesNothing(t *testing.T) {
	for _, l := range listsOf(few(), 5) {
		if got := Sum(l, Minus(l)); len(got) != 0 {
			t.Fatalf("Sum(%#v, Minus) = %#v", l, got)
		}
		if got := Sum(Minus(Of(l)), l); len(got) != 0 {
			t.Fatalf("Sum(Minus(Of(%#v)), l) = %#v", l, got)
		}
		got := Of(l)
		for _, x := range Minus(l) {
			got = Put(got, x)
		}
		if len(got) != 0 {
			t.Fatalf("%#v, and Minus put = %#v", l, got)
		}
	}
}

// P10.1, P10.2: very many rows, far from their order; the more of them come, the fewer times longer it takes.
func TestVeryManyRows(t *testing.T) {
	const many = 1 << 17
	var l []api.Times
	for i := range many {
		l = append(l, at(1, cell.Int(i*54321%many/2), "t"))
	}
	got := Of(l)
	if len(got) != many/2 || !Right(got) || !Whole(got) || !same(Sum(l[:9], l[9:]), got) || len(Sum(got, Minus(l))) != 0 {
		t.Fatal("very many rows aren't in order")
	}
	for i, x := range got {
		if x.N != 2 || x.Row[0] != cell.Int(i) || x.Row[1] != "t" || len(x.Row) != 2 {
			t.Fatalf("row %d is %#v", i, x)
		}
	}
	one := at(-2, cell.Int(many/4), "t")
	if without := Put(got, one); len(without) != many/2-1 || Find(without, one.Row) != 0 || Find(got, one.Row) != 2 {
		t.Error("Put leaves a row that is gone")
	}
}

// Wrong lists, and how often beyond what may be: a call ends, whatever it is given.
func TestWhateverIsGiven(t *testing.T) {
	l := append(few(), at(math.MaxInt, "ta"), at(math.MaxInt, "ta"), at(math.MinInt, "tb"), at(math.MinInt, "x"), at(math.MinInt, "x"), api.Times{})
	for _, in := range [][]api.Times{nil, l, make([]api.Times, 300)} {
		for _, x := range append(l, at(1, strings.Repeat("x", 1<<16)), at(1, make([]string, 1<<10)...)) {
			Put(in, x)
			Find(in, x.Row)
			Sum(in, []api.Times{x})
		}
		Of(in)
		Minus(in)
		Right(in)
		Whole(in)
	}
}

// answers are all lists that the calls answer of l, which is in order, of a row more, and of loose ones, which aren't.
func answers(l []api.Times, x api.Times, loose []api.Times) [][]api.Times {
	gone := api.Times{Row: l[1].Row, N: -l[1].N}
	more := api.Times{Row: l[1].Row, N: 1}
	return [][]api.Times{
		Put(l, x), Put(l, gone), Put(l, more), Put(l, api.Times{Row: l[0].Row}), Put(nil, x), Of(l), Of(l[:1]), Sum(l, nil), Sum(nil, l), Sum(l[:1], l[1:]), Sum(l, []api.Times{x}), Minus(l),
		Of(loose), Sum(loose, nil), Sum(nil, loose), Sum(loose, l), Sum(l, loose), Minus(loose),
	}
}

// What is handed in isn't changed, its spare room neither, and answers are new memory.
func TestNothingIsChangedOrShared(t *testing.T) {
	room := []api.Times{at(1, "ta", "spare"), at(2, "tc"), at(-1, "te"), at(7, "spare"), at(8, "spare")}
	room[0].Row = room[0].Row[:1]
	looseRoom := []api.Times{at(1, "tz"), at(0, "ty"), at(2, "ta"), at(3, "tz"), at(-2, "tc"), at(7, "spare"), at(8, "spare")}
	row := []string{"tb", "spare"}
	l, x, loose := room[:3], at(4, row[:1]...), looseRoom[:5]
	wasRoom, wasLoose := deep(room), deep(looseRoom)
	want := answers(deep(l), at(4, "tb"), deep(loose))
	for range 2 {
		got := answers(l, x, loose)
		for _, in := range [][]api.Times{l, loose} {
			Right(in)
			Whole(in)
			Find(in, x.Row)
		}
		for i := range got {
			if !same(got[i], want[i]) {
				t.Fatalf("answer %d is %#v, not %#v", i, got[i], want[i])
			}
			changeAll(got[i])
			_ = append(got[i], at(-99, "more"))
		}
		if !same(room, wasRoom) || !same(looseRoom, wasLoose) || room[0].Row[:2][1] != "spare" || !slices.Equal(row, []string{"tb", "spare"}) {
			t.Fatalf("%#v, %#v, %#v", room, looseRoom, row)
		}
	}
	got := answers(l, x, loose)
	changeAll(l)
	changeAll(loose)
	row[0] = "changed"
	for i := range got {
		if !same(got[i], want[i]) {
			t.Fatalf("answer %d hangs on what was handed in: %#v", i, got[i])
		}
	}
}

// changeAll changes each row of a list, its spare room too.
func changeAll(l []api.Times) {
	for i := range l {
		for j := range l[i].Row {
			l[i].Row[j] = "changed"
		}
		_ = append(l[i].Row, "more")
		l[i] = at(-99, "changed")
	}
}

// No two rows of an answer share cells, their spare room neither.
func TestRowsOfAnAnswerShareNothing(t *testing.T) {
	cells := []string{"ta", "tb", "tc"}
	l := []api.Times{{Row: cells[:1], N: 1}, {Row: cells[:2], N: 1}, {Row: cells, N: 1}}
	for i, got := range [][]api.Times{Of(l), Sum(l, nil), Sum(nil, l), Minus(l), Put(l, at(1, "td")), Put(l[:2], l[2])} {
		for changed := range l {
			was := deep(got)
			changeAll(got[changed : changed+1])
			was[changed] = got[changed]
			if !same(got, was) {
				t.Errorf("row %d of answer %d changed others: %#v", changed, i, got)
			}
		}
	}
}
