package table

import (
	"fmt"
	"math"
	"slices"
	"strconv"
	"strings"
	"sync"
	"testing"

	"distiller/api"
	"distiller/block"
	"distiller/cell"
	"distiller/cutter"
)

// at is a row of these cells, so often.
func at(n int, row ...string) api.Times {
	return api.Times{Row: row, N: n}
}

// num is the row of one number, so often.
func num(n, number int) api.Times {
	return at(n, cell.Int(number))
}

// nums are the rows of one number each, from low on up to ahead of high, each once.
func nums(low, high int) []api.Times {
	var l []api.Times
	for i := low; i < high; i++ {
		l = append(l, num(1, i))
	}
	return l
}

// number is a column of numbers.
var number = []api.Col{{Kind: api.KindInt}}

// mixed are columns of each kind, some of which may have nothing.
var mixed = []api.Col{{Kind: api.KindInt, Null: true}, {Kind: api.KindText}, {Kind: api.KindBool, Null: true}}

// made is a new table under these columns.
func made(t *testing.T, cols []api.Col) api.Table {
	t.Helper()
	x, e := New("abc", cols)
	if e != api.OK {
		t.Fatal(e)
	}
	return x
}

// with is the table with these, which it has to take.
func with(t *testing.T, x api.Table, l ...api.Times) api.Table {
	t.Helper()
	y, e := Apply(x, l)
	if e != api.OK {
		t.Fatalf("%s come: %d", shown(l), e)
	}
	return y
}

// listsOf are all lists of up to most of these.
func listsOf[T any](these []T, most int) [][]T {
	l := [][]T{nil}
	longest := l
	for range most {
		var next [][]T
		for _, before := range longest {
			for _, x := range these {
				next = append(next, append(slices.Clip(before), x))
			}
		}
		l = append(l, next...)
		longest = next
	}
	return l
}

// ahead tells whether a row stands ahead of another one: by the first cell that is unlike, else the shorter one.
func ahead(a, b []string) bool {
	for i := 0; i < len(a) && i < len(b); i++ {
		if a[i] != b[i] {
			return a[i] < b[i]
		}
	}
	return len(a) < len(b)
}

// same tells whether two lists have the same rows, as often, as they stand.
func same(a, b []api.Times) bool {
	return slices.EqualFunc(a, b, func(x, y api.Times) bool { return x.N == y.N && slices.Equal(x.Row, y.Row) })
}

// alike tells whether two lists have the same blocks.
func alike(a, b []api.Block) bool {
	return slices.EqualFunc(a, b, func(x, y api.Block) bool {
		return x.Rows == y.Rows && x.N == y.N && slices.Equal(x.Cols, y.Cols)
	})
}

// equal tells whether two tables are the same, field by field.
func equal(x, y api.Table) bool {
	return x.Name == y.Name && slices.Equal(x.Cols, y.Cols) && alike(x.Blocks, y.Blocks) && same(x.Tail, y.Tail)
}

// deep is the list in memory of its own.
func deep(l []api.Times) []api.Times {
	out := make([]api.Times, len(l))
	for i, x := range l {
		out[i] = api.Times{Row: slices.Clone(x.Row), N: x.N}
	}
	return out
}

// deepTable is the table in memory of its own.
func deepTable(x api.Table) api.Table {
	blocks := slices.Clone(x.Blocks)
	for i, b := range blocks {
		blocks[i].Cols = slices.Clone(b.Cols)
	}
	return api.Table{Name: x.Name, Cols: slices.Clone(x.Cols), Blocks: blocks, Tail: deep(x.Tail)}
}

// shown are these for an error's text, cut short.
func shown(these ...any) string {
	var s string
	for _, x := range these {
		s += fmt.Sprintf("%.300s; ", fmt.Sprintf("%#v", x))
	}
	return s
}

// together are all of these in order, each once, none 0 times.
func together(lists ...[]api.Times) []api.Times {
	var l []api.Times
	for _, x := range slices.Concat(lists...) {
		i := 0
		for i < len(l) && ahead(l[i].Row, x.Row) {
			i++
		}
		if i < len(l) && slices.Equal(l[i].Row, x.Row) {
			l[i].N += x.N
		} else {
			l = slices.Insert(l, i, x)
		}
	}
	return slices.DeleteFunc(l, func(x api.Times) bool { return x.N == 0 })
}

// negative are the rows the other way round.
func negative(l []api.Times) []api.Times {
	out := deep(l)
	for i := range out {
		out[i].N = -out[i].N
	}
	return out
}

// wantError is what Apply tells of rows that fit, beside those that are there: by the chapter's words.
func wantError(all, l []api.Times) api.Errno {
	for _, x := range l {
		if x.N > 1048576 || x.N < -1048576 {
			return api.ErrLarge
		}
	}
	now, e := together(all, l), api.OK
	for _, x := range now {
		if x.N < 0 {
			return api.ErrUnder
		}
		if x.N > 1048576 || len(now) > 200 {
			e = api.ErrLarge
		}
	}
	return e
}

// often is how often the row of this number is there.
func often(l []api.Times, number int) int {
	for _, x := range l {
		if slices.Equal(x.Row, []string{cell.Int(number)}) {
			return x.N
		}
	}
	return 0
}

// isTable tells it, if the table hasn't just all these rows, or its blocks aren't those of the rows that were packed last.
func isTable(t *testing.T, x api.Table, packed, all []api.Times, cols []api.Col) {
	t.Helper()
	rows, many := Rows(x)
	want := api.Table{Name: "abc", Cols: cols, Blocks: cutter.Blocks(packed, len(cols)), Tail: together(all, negative(packed))}
	if !equal(x, want) || !same(rows, all) || many != len(want.Blocks) {
		t.Fatalf("%s of %s: %s, %d", shown(x), shown(all), shown(rows), many)
	}
}

// P14.1: a new table, its name and columns, without rows.
func TestNew(t *testing.T) {
	for _, name := range []string{"a", "z", "abc", "abcdefghijkl", "zzzzzzzzzzzz"} {
		for _, kinds := range listsOf([]api.Col{{Kind: 'b'}, {Kind: 'i', Null: true}, {Kind: 't'}}, 6)[1:] {
			x, e := New(name, kinds)
			if e != api.OK || !equal(x, api.Table{Name: name, Cols: kinds}) {
				t.Fatalf("%q, %s: %s", name, shown(kinds), shown(x, e))
			}
			if rows, many := Rows(x); len(rows) != 0 || many != 0 {
				t.Fatalf("%q has rows: %s", name, shown(rows, many))
			}
		}
	}
}

// P14.1: names and columns that may not be, alone and together: ErrArg, and no table.
func TestNewRefused(t *testing.T) {
	names := []string{"", "A", "aB", "a1", "a b", "a_", "\x00", "a\xff", "ä", "{", "`", "abcdefghijklm", strings.Repeat("a", 1000)}
	columns := [][]api.Col{
		nil, {}, {{}}, {{Kind: 'x'}}, {{Kind: 'I'}}, {{Kind: 0, Null: true}}, {{Kind: 'i'}, {}}, {{}, {Kind: 'i'}}, {{Kind: 1}},
		slices.Repeat(number, 7), slices.Repeat(number, 100), append(slices.Repeat(number, 5), api.Col{Kind: 'c'}),
	}
	refused := func(name string, cols []api.Col) {
		t.Helper()
		if x, e := New(name, cols); e != api.ErrArg || x.Name != "" || x.Cols != nil || len(x.Blocks) != 0 || len(x.Tail) != 0 {
			t.Errorf("%.20q, %s: %s", name, shown(cols), shown(x, e))
		}
	}
	for _, name := range names {
		refused(name, number)
		for _, cols := range columns {
			refused(name, cols)
		}
	}
	for _, cols := range columns {
		refused("abc", cols)
	}
}

// P14.1: rows out of blocks, out of the tail, and out of both: in order, each once, and how many blocks.
func TestRowsWrittenOut(t *testing.T) {
	cols := []api.Col{{Kind: api.KindText}}
	// Of these letters td, tl and tt begin blocks.
	was := with(t, made(t, cols), at(1, "tl"), at(2, "td"), at(1, "ta"), at(4, "tt"))
	for _, x := range []struct {
		packed      bool
		more        []api.Times
		want        []api.Times
		many, after int
	}{
		{false, nil, []api.Times{at(1, "ta"), at(2, "td"), at(1, "tl"), at(4, "tt")}, 0, 4},
		{true, nil, []api.Times{at(1, "ta"), at(2, "td"), at(1, "tl"), at(4, "tt")}, 4, 4},
		{false, []api.Times{at(1, "tb"), at(-1, "td")}, []api.Times{at(1, "ta"), at(1, "tb"), at(1, "td"), at(1, "tl"), at(4, "tt")}, 0, 4},
		{true, []api.Times{at(1, "tz"), at(1, "tb"), at(-1, "td")}, []api.Times{at(1, "ta"), at(1, "tb"), at(1, "td"), at(1, "tl"), at(4, "tt"), at(1, "tz")}, 4, 4},
		{true, []api.Times{at(-1, "tl"), at(-4, "tt")}, []api.Times{at(1, "ta"), at(2, "td")}, 4, 2},
		{true, []api.Times{at(-1, "tl"), at(-4, "tt"), at(-2, "td"), at(-1, "ta")}, nil, 4, 0},
		{false, []api.Times{at(-1, "tl"), at(-4, "tt"), at(-2, "td"), at(-1, "ta")}, nil, 0, 0},
		{true, []api.Times{at(3, "tt"), at(2, "t")}, []api.Times{at(2, "t"), at(1, "ta"), at(2, "td"), at(1, "tl"), at(7, "tt")}, 4, 4},
	} {
		y := was
		if x.packed {
			y = Pack(y)
		}
		y = with(t, y, x.more...)
		if got, many := Rows(y); !same(got, x.want) || many != x.many {
			t.Errorf("%s: %s", shown(x), shown(got, many))
		}
		if got, many := Rows(Pack(y)); !same(got, x.want) || many != x.after {
			t.Errorf("%s, packed: %s", shown(x), shown(got, many))
		}
	}
}

// P14.1: Check of each row that doesn't fit, wherever it stands: the first error, however often a row comes.
func TestCheckRows(t *testing.T) {
	x := made(t, mixed)
	good := []api.Times{at(1, cell.Int(5), "ta", ""), at(-3, "", "t", cell.Bool(true)), at(0, cell.Int(-1), "tz", cell.Bool(false))}
	if e := Check(x, nil); e != api.OK {
		t.Error("no rows:", e)
	}
	if e := Check(x, good); e != api.OK {
		t.Error("rows that fit:", e)
	}
	wrong := []struct {
		row  []string
		want api.Errno
	}{
		{nil, api.ErrArg},
		{[]string{cell.Int(1)}, api.ErrArg},
		{[]string{cell.Int(1), "ta"}, api.ErrArg},
		{[]string{cell.Int(1), "ta", "", ""}, api.ErrArg},
		{[]string{"x", "x"}, api.ErrArg},
		{[]string{cell.Int(1), "", ""}, api.ErrKind},
		{[]string{"ta", "ta", ""}, api.ErrKind},
		{[]string{"", cell.Int(1), ""}, api.ErrKind},
		{[]string{"", "ta", "ta"}, api.ErrKind},
		{[]string{"i", "ta", ""}, api.ErrKind},
		{[]string{"", "t12345678901234567", ""}, api.ErrKind},
		{[]string{"", "ta", "b\x02"}, api.ErrKind},
	}
	often := []int{0, 1, -1, 1 << 20, 1<<20 + 1, -1<<20 - 1, math.MaxInt, math.MinInt}
	for _, w := range wrong {
		for _, n := range often {
			for i := range len(good) + 1 {
				l := slices.Insert(deep(good), i, at(n, w.row...))
				if e := Check(x, l); e != w.want {
					t.Errorf("%s: %d, not %d", shown(l), e, w.want)
				}
				for _, v := range wrong {
					if e := Check(x, append(l, at(1, v.row...))); e != w.want {
						t.Errorf("%s ahead of %s: %d, not %d", shown(w), shown(v), e, w.want)
					}
				}
				// What comes too often, ahead and behind, is told only if all rows fit.
				for _, l := range [][]api.Times{append([]api.Times{at(1<<21, good[0].Row...)}, l...), append(l, at(math.MinInt, good[0].Row...))} {
					if e := Check(x, l); e != w.want {
						t.Errorf("%s: %d, not %d", shown(l), e, w.want)
					}
				}
			}
		}
	}
}

// P14.1: how often a row comes, or goes, at once: 2^20 at most, either way, wherever it stands, whatever the table has.
func TestCheckOften(t *testing.T) {
	x := made(t, number)
	for _, w := range []struct {
		n    int
		want api.Errno
	}{
		{0, api.OK}, {1, api.OK}, {-1, api.OK}, {1 << 19, api.OK}, {1<<20 - 1, api.OK}, {1 << 20, api.OK}, {1<<20 + 1, api.ErrLarge}, {1 << 21, api.ErrLarge}, {1 << 32, api.ErrLarge}, {math.MaxInt, api.ErrLarge},
		{-1 << 19, api.OK}, {1 - 1<<20, api.OK}, {-1 << 20, api.OK}, {-1<<20 - 1, api.ErrLarge}, {-1 << 21, api.ErrLarge}, {-1 << 32, api.ErrLarge}, {math.MinInt + 1, api.ErrLarge}, {math.MinInt, api.ErrLarge},
	} {
		for i := range 4 {
			l := slices.Insert(nums(0, 3), i, num(w.n, 7))
			if e := Check(x, l); e != w.want {
				t.Errorf("%s: %d, not %d", shown(l), e, w.want)
			}
		}
	}
	// Each alone is asked: neither how often the same row comes all together, nor how many unlike ones.
	for _, l := range [][]api.Times{{num(1<<20, 1), num(1<<20, 1)}, {num(-1<<20, 1), num(-1<<20, 1), num(-5, 2)}, nums(0, 1000)} {
		if e := Check(x, l); e != api.OK {
			t.Errorf("%s: %d", shown(l), e)
		}
	}
	if e := Check(x, []api.Times{num(1<<20+1, 1), num(-1, 1)}); e != api.ErrLarge {
		t.Error("taken together:", e)
	}
}

// P14.1: Apply tells Check's error ahead of all others, and keeps the table.
func TestApplyChecks(t *testing.T) {
	x := with(t, Pack(with(t, made(t, number), nums(0, 20)...)), num(1, 50))
	before := deepTable(x)
	for _, w := range []struct {
		l    []api.Times
		want api.Errno
	}{
		{[]api.Times{num(1, 1), at(1)}, api.ErrArg},
		{[]api.Times{at(1, cell.Int(1), cell.Int(2))}, api.ErrArg},
		{[]api.Times{num(1, 1), at(1, "ta")}, api.ErrKind},
		{[]api.Times{at(0, "")}, api.ErrKind},
		{[]api.Times{at(1), at(1, "ta")}, api.ErrArg},
		{[]api.Times{at(1, "ta"), at(1)}, api.ErrKind},
		{[]api.Times{num(-1, 99), at(1, "ta")}, api.ErrKind},
		{[]api.Times{num(1<<21, 1), at(1)}, api.ErrArg},
		{append(nums(100, 400), at(1, "ta")), api.ErrKind},
		{[]api.Times{num(-1, 99), num(1<<20+1, 1)}, api.ErrLarge},
		{[]api.Times{num(-1<<20-1, 99)}, api.ErrLarge},
		{[]api.Times{num(1<<20+1, 1), num(-9, 1)}, api.ErrLarge},
		{[]api.Times{num(math.MaxInt, 1), num(math.MinInt, 1)}, api.ErrLarge},
	} {
		if y, e := Apply(x, w.l); e != w.want || !equal(y, before) || Check(x, w.l) != w.want {
			t.Errorf("%s: %s", shown(w), shown(y, e))
		}
	}
	if !equal(x, before) {
		t.Error("the table is changed")
	}
}

// P14.1: what would go below none, in the tail, in blocks, in both, beside what is too much: ErrUnder, and the table.
func TestApplyBelowNone(t *testing.T) {
	tail := with(t, made(t, number), num(2, 1), num(1, 2))
	packed := Pack(tail)
	for _, x := range []api.Table{tail, packed, with(t, packed, num(-1, 1), num(1, 3)), with(t, packed, num(3, 1), num(-1, 2))} {
		before := deepTable(x)
		all, _ := Rows(x)
		for i := range 5 {
			n := often(all, i)
			for _, l := range [][]api.Times{
				{num(-n-1, i)},
				{num(-n, i), num(-1, i)},
				{num(1, 9), num(-n-1, i), num(1, 7)},
				{num(-1<<20, i)},
				{num(-n-2, i), num(1, i)},
				append(nums(100, 400), num(-n-1, i)),
				{num(1<<20, 9), num(1, 9), num(-n-1, i)},
				{num(-n-1, i), num(1<<20, 9), num(1<<20, 9)},
			} {
				if y, e := Apply(x, l); e != api.ErrUnder || !equal(y, before) {
					t.Fatalf("%s of %s: %s", shown(l), shown(all), shown(y, e))
				}
			}
			// Just as often as it is there, it goes, and what comes beside it in the same list counts.
			for _, l := range [][]api.Times{{num(-n, i)}, {num(-n-1, i), num(1, i)}, {num(1, i), num(-n-1, i)}} {
				y, e := Apply(x, l)
				if got, _ := Rows(y); e != api.OK || !same(got, together(all, l)) {
					t.Fatalf("%s of %s: %s", shown(l), shown(all), shown(got, e))
				}
			}
		}
		if !equal(x, before) {
			t.Fatal("the table is changed")
		}
	}
}

// P14.1: a row is there 2^20 times at most, in the tail, in blocks, in both, and by what comes in one list.
func TestApplyTooOften(t *testing.T) {
	most := 1 << 20
	for _, many := range []int{0, 1, 2, most / 2, most - 1, most} {
		was := with(t, made(t, number), num(many, 4), num(1, 1), num(1, 7))
		for _, x := range []api.Table{was, Pack(was), with(t, Pack(was), num(-many, 4), num(many, 4)), with(t, Pack(was), num(-(many/2), 4))} {
			rows, _ := Rows(x)
			n := often(rows, 4)
			before := deepTable(x)
			for _, l := range [][]api.Times{{num(most-n, 4)}, {num(most-n, 4), num(1, 4), num(-1, 4)}, {num(1, 4), num(most-n, 4), num(-1, 4)}} {
				y, e := Apply(x, l)
				for _, z := range []api.Table{y, Pack(y)} {
					if got, _ := Rows(z); e != api.OK || !same(got, []api.Times{num(1, 1), num(most, 4), num(1, 7)}) {
						t.Fatalf("%d and %s: %s", n, shown(l), shown(got, e))
					}
				}
			}
			for _, l := range [][]api.Times{{num(most-n, 4), num(1, 4)}, {num(1, 4), num(most-n, 4)}, {num(1, 9), num(most, 4), num(1-n, 4)}, {num(most, 4), num(most, 4), num(most, 4)}} {
				if y, e := Apply(x, l); e != api.ErrLarge || !equal(y, before) {
					t.Fatalf("%d and %s: %s", n, shown(l), shown(y, e))
				}
			}
		}
	}
}

// P14.1: there are 200 unlike rows at most, in the tail, in blocks, in both; rows that go make room, those there 0 times need none.
func TestApplyTooMany(t *testing.T) {
	x := made(t, number)
	for _, many := range []int{0, 1, 100, 199, 200} {
		first := with(t, x, nums(0, many)...)
		for _, y := range []api.Table{first, Pack(first), with(t, Pack(with(t, x, nums(0, many/2)...)), nums(many/2, many)...), with(t, Pack(with(t, first, num(-1, 0), num(1, 0))), num(5, 0), num(-5, 0))} {
			before := deepTable(y)
			full, e := Apply(y, nums(many, 200))
			if rows, _ := Rows(full); e != api.OK || !same(rows, nums(0, 200)) {
				t.Fatalf("%d, and the others: %s", many, shown(rows, e))
			}
			for _, l := range [][]api.Times{nums(many, 201), nums(many, 1000), append(nums(many, 200), num(1<<20, -3)), append(nums(300, 501-many), num(-1, 300), num(1, -1))} {
				if z, e := Apply(y, l); e != api.ErrLarge || !equal(z, before) {
					t.Fatalf("%d, and %s: %s", many, shown(l), shown(z, e))
				}
			}
			for _, z := range []api.Table{full, Pack(full)} {
				if _, e := Apply(z, []api.Times{num(1, 200)}); e != api.ErrLarge {
					t.Fatalf("one more: %d", e)
				}
				for _, l := range [][]api.Times{
					{num(1, 200), num(-1, 7)},
					{num(-1, 7), num(1, 200)},
					{num(0, 200), num(0, 201)},
					{num(1, 200), num(-1, 200)},
					{num(9, 100)},
					append(append(nums(200, 400), num(-1, 7)), negative(nums(201, 400))...),
				} {
					got, e := Apply(z, l)
					if rows, _ := Rows(got); e != api.OK || !same(rows, together(nums(0, 200), l)) {
						t.Fatalf("%s: %s", shown(l), shown(rows, e))
					}
				}
			}
		}
	}
}

// P14.1: Tail and l together, in order, each once, none 0 times; the blocks stay.
func TestApplyTail(t *testing.T) {
	for _, packed := range []bool{false, true} {
		x := with(t, made(t, number), num(3, 5), num(1, 1))
		blocks, tail := []api.Block(nil), []api.Times{num(1, 1), num(3, 5)}
		if packed {
			x, blocks, tail = Pack(x), cutter.Blocks(tail, 1), nil
		}
		for _, step := range []struct{ l, tail []api.Times }{
			{nil, nil},
			{[]api.Times{num(0, 5), num(0, 9)}, nil},
			{[]api.Times{num(2, 9), num(1, -4), num(-3, 5), num(1, 9)}, []api.Times{num(1, -4), num(-3, 5), num(3, 9)}},
			{[]api.Times{num(1, 5), num(-3, 9)}, []api.Times{num(1, -4), num(-2, 5)}},
			{[]api.Times{num(-1, 1)}, []api.Times{num(1, -4), num(-1, 1), num(-2, 5)}},
			{[]api.Times{num(2, 5), num(-1, -4), num(1, 1)}, nil},
		} {
			x = with(t, x, step.l...)
			want := together(tail, step.tail)
			if !equal(x, api.Table{Name: "abc", Cols: number, Blocks: blocks, Tail: want}) {
				t.Fatalf("%s: %s", shown(step), shown(x))
			}
		}
	}
}

// P14.1: all short lists of rows that come, and go, in three steps, each packed behind or not, against a bag.
func TestApplyShortLists(t *testing.T) {
	lists := listsOf([]api.Times{num(1, 3), num(-1, 3), num(2, 5), num(-1, 5), num(0, 8), num(1<<20, 8)}, 2)
	taken := map[api.Errno]int{}
	for packs := range 4 {
		for _, a := range lists {
			for _, b := range lists {
				for _, c := range lists[:1+len(lists)/2] {
					x := made(t, number)
					var packed, all []api.Times
					for i, l := range [][]api.Times{a, b, c} {
						y, e := Apply(x, l)
						if want := wantError(all, l); e != want || e != api.OK && !equal(x, y) {
							t.Fatalf("%s and %s: %s, not %d", shown(all), shown(l), shown(y, e), want)
						}
						taken[e]++
						if e == api.OK {
							x, all = y, together(all, l)
						}
						if packs>>i&1 == 1 {
							x, packed = Pack(x), all
						}
					}
					isTable(t, x, packed, all, number)
				}
			}
		}
	}
	if taken[api.OK] < 10000 || taken[api.ErrUnder] < 10000 || taken[api.ErrLarge] < 1000 || len(taken) != 3 {
		t.Errorf("taken: %v", taken)
	}
}

// P14.1: all rows in blocks, no Tail, and packed again the same table, byte for byte, however it came about.
func TestPack(t *testing.T) {
	x := made(t, mixed)
	if got := Pack(x); !equal(got, x) {
		t.Errorf("without rows: %s", shown(got))
	}
	var came, all []api.Times
	for i := range 600 {
		first := ""
		if i%7 > 2 {
			first = cell.Int(i * 7919 % 23 << (i % 40))
		}
		more := []api.Times{at(i%4+1, first, cell.Text(strconv.Itoa(i*31%9)), []string{"", cell.Bool(false), cell.Bool(true)}[i%3])}
		came = append(came, more[0])
		if i >= 190 {
			more = append(more, at(-came[i-190].N, came[i-190].Row...))
		}
		x, all = with(t, x, more...), together(all, more)
		packed := Pack(x)
		isTable(t, packed, all, all, mixed)
		if again := Pack(packed); len(packed.Tail) != 0 || !equal(again, packed) {
			t.Fatalf("packed again: %s", shown(again))
		}
		if i%50 == 49 {
			x = packed
		}
	}
	if len(x.Blocks) < 10 {
		t.Errorf("%d blocks", len(x.Blocks))
	}
	for i := range came[410:] {
		x = with(t, x, at(-came[410+i].N, came[410+i].Row...))
		if i%20 == 0 {
			x = Pack(x)
		}
	}
	if got := Pack(x); !equal(got, made(t, mixed)) || len(x.Blocks) == 0 {
		t.Errorf("all gone: %s", shown(got))
	}
}

// P14.1: blocks written out: td begins one, ta doesn't.
func TestPackWrittenOut(t *testing.T) {
	x := with(t, made(t, []api.Col{{Kind: api.KindText}}), at(2, "td"), at(1, "ta"))
	want := []api.Block{{Rows: 1, Cols: []string{"\x01\x00\x02ta\x01"}, N: "\x02\x00"}, {Rows: 1, Cols: []string{"\x01\x00\x02td\x01"}, N: "\x04\x00"}}
	if got := Pack(x); !equal(got, api.Table{Name: "abc", Cols: x.Cols, Blocks: want}) {
		t.Error(shown(got))
	}
	if got := Pack(with(t, Pack(x), at(-2, "td"))); !equal(got, api.Table{Name: "abc", Cols: x.Cols, Blocks: want[:1]}) {
		t.Error(shown(got))
	}
}

// P14.2: rows in two goes, or more, are those in one, wherever they are split, and whether or not they are packed between.
func TestBag(t *testing.T) {
	row := func(i int) []string { return []string{cell.Int(i * 37 % 41), cell.Text(strconv.Itoa(i % 2)), ""} }
	var l []api.Times
	for i := range 60 {
		l = append(l, at(i%3+1, row(i)...))
		if i%4 == 3 {
			l = append(l, at(-1, row(i-2)...))
		}
	}
	for _, was := range []api.Table{made(t, mixed), Pack(with(t, made(t, mixed), l[10:50]...))} {
		one := with(t, was, l...)
		for i := range len(l) + 1 {
			if two := with(t, with(t, was, l[:i]...), l[i:]...); !equal(two, one) {
				t.Fatalf("split at %d: %s", i, shown(two))
			}
			if two := Pack(with(t, Pack(with(t, was, l[:i]...)), l[i:]...)); !equal(two, Pack(one)) {
				t.Fatalf("split at %d, packed: %s", i, shown(two))
			}
		}
		each := was
		for _, x := range l {
			each = with(t, each, x)
		}
		if !equal(each, one) {
			t.Fatalf("each alone: %s", shown(each))
		}
		// The order in which they come, and what comes and goes again beside them, change nothing.
		back := slices.Clone(l)
		slices.Reverse(back)
		if got := with(t, with(t, with(t, was, at(7, "", "tg", "")), back...), at(-7, "", "tg", "")); !equal(got, one) {
			t.Fatalf("the other way round: %s", shown(got))
		}
	}
}

// P14.2: two goes that are taken are taken in one; one that is taken and can't be split so is refused, and nothing has changed then.
func TestBagShortLists(t *testing.T) {
	lists := listsOf([]api.Times{num(1, 3), num(-1, 3), num(2, 5), num(-2, 5), num(0, 3)}, 3)
	for _, was := range []api.Table{made(t, number), with(t, Pack(with(t, made(t, number), num(1, 3))), num(1, 5))} {
		for _, a := range lists {
			first, e := Apply(was, a)
			for _, b := range lists {
				if e != api.OK {
					break
				}
				two, f := Apply(first, b)
				one, g := Apply(was, slices.Concat(a, b))
				if f != g || f == api.OK && !equal(one, two) || f != api.OK && (!equal(one, was) || !equal(two, first)) {
					t.Fatalf("%s, %s: %s", shown(a), shown(b), shown(one, g, two, f))
				}
			}
		}
	}
}

// The chapter's example: two rows come, one goes: one is left.
func TestTwoComeOneGoes(t *testing.T) {
	x := with(t, made(t, number), num(1, 1), num(1, 2))
	for _, y := range []api.Table{x, Pack(x)} {
		y = with(t, y, num(-1, 1))
		for _, z := range []api.Table{y, Pack(y)} {
			if got, _ := Rows(z); !same(got, []api.Times{num(1, 2)}) {
				t.Error(shown(got))
			}
		}
	}
}

// Tables that the calls are not asked of, and any rows: nothing panics.
func TestWhateverIsGiven(t *testing.T) {
	good := block.Of(nums(1, 3), 1)
	blocks := []api.Block{{}, good, block.Of(nums(0, 1), 1), {Rows: math.MaxInt, N: "\xff"}, {Rows: -1, Cols: []string{"", ""}}}
	rows := []api.Times{{}, num(1, 1), num(-1, 1), num(math.MinInt, 2), num(math.MaxInt, 2), at(math.MaxInt, "ta", "tb"), at(-1, "\xff")}
	for _, cols := range [][]api.Col{nil, number, mixed, {{Kind: 0, Null: true}}, slices.Repeat(number, 9)} {
		for _, b := range listsOf(blocks, 2) {
			for _, tail := range listsOf(rows, 2) {
				x := api.Table{Name: "A?", Cols: cols, Blocks: b, Tail: tail}
				before := deepTable(x)
				if _, many := Rows(x); many != len(b) {
					t.Fatalf("%s: %d blocks", shown(x), many)
				}
				for _, l := range listsOf(rows, 1) {
					if y, e := Apply(x, l); e != api.OK && !equal(y, before) || Check(x, l) != api.OK && Check(x, l) != e {
						t.Fatalf("%s, %s: %s", shown(x), shown(l), shown(y, e))
					}
				}
				if y := Pack(x); y.Name != "A?" || len(y.Tail) != 0 || !slices.Equal(y.Cols, cols) {
					t.Fatalf("%s: %s", shown(x), shown(y))
				}
				if !equal(x, before) {
					t.Fatalf("%s is changed", shown(x))
				}
			}
		}
	}
	if e := Check(api.Table{}, []api.Times{{}, at(1 << 20)}); e != api.OK {
		t.Error("rows of no cells under no columns:", e)
	}
}

// spoil changes all that can be reached from a table, its spare room too.
func spoil(x api.Table) {
	for i := range x.Blocks[:cap(x.Blocks)] {
		b := x.Blocks[:cap(x.Blocks)][i]
		for c := range b.Cols[:cap(b.Cols)] {
			b.Cols[:cap(b.Cols)][c] = "spoilt"
		}
		x.Blocks[:cap(x.Blocks)][i] = api.Block{N: "spoilt"}
	}
	for i := range x.Cols[:cap(x.Cols)] {
		x.Cols[:cap(x.Cols)][i] = api.Col{Kind: 'x'}
	}
	spoilRows(x.Tail)
}

// spoilRows changes all that can be reached from rows, their spare room too.
func spoilRows(l []api.Times) {
	for i, x := range l[:cap(l)] {
		for c := range x.Row[:cap(x.Row)] {
			x.Row[:cap(x.Row)][c] = "spoilt"
		}
		l[:cap(l)][i] = at(99, "spoilt")
	}
}

// roomy is the list with spare room behind it, and behind each row.
func roomy(l []api.Times) []api.Times {
	room := append(deep(l), at(77, "spare"))
	for i := range room {
		room[i].Row = append(slices.Clone(room[i].Row), "spare")[:len(room[i].Row)]
	}
	return room[:len(l)]
}

// spared tells whether a roomy list is still as it was, with its spare room.
func spared(room, was []api.Times) bool {
	for _, x := range room[:len(room)+1] {
		if x.Row[:len(x.Row)+1][len(x.Row)] != "spare" {
			return false
		}
	}
	return same(room[:len(room)+1], append(slices.Clip(was), at(77, "spare")))
}

// roomyTable is the table with spare room behind each of its lists.
func roomyTable(x api.Table) api.Table {
	x = deepTable(x)
	x.Cols = append(x.Cols, api.Col{Kind: 'x'})[:len(x.Cols)]
	x.Blocks = append(x.Blocks, api.Block{Cols: []string{"spare"}})
	for i, b := range x.Blocks {
		x.Blocks[i].Cols = append(slices.Clone(b.Cols), "spare")[:len(b.Cols)]
	}
	x.Blocks = x.Blocks[:len(x.Blocks)-1]
	x.Tail = roomy(x.Tail)
	return x
}

// sparedTable tells whether a roomy table is still as it was, with its spare room.
func sparedTable(room, was api.Table) bool {
	all := room.Blocks[:len(room.Blocks)+1]
	for _, b := range all {
		if b.Cols[:len(b.Cols)+1][len(b.Cols)] != "spare" {
			return false
		}
	}
	return equal(room, was) && spared(room.Tail, was.Tail) && room.Cols[:len(room.Cols)+1][len(room.Cols)].Kind == 'x' && all[len(room.Blocks)].Cols[0] == "spare"
}

// A table is a value: what is handed in stays as it was, its spare room neither, and no answer hangs on it, nor on another answer.
func TestNothingIsChangedOrShared(t *testing.T) {
	cols := append(slices.Clone(mixed), api.Col{Kind: 'x'})[:len(mixed)]
	fresh, _ := New("abc", cols)
	cols[0] = api.Col{Kind: 'y'}
	if !slices.Equal(fresh.Cols, mixed) {
		t.Fatalf("the columns are kept: %s", shown(fresh))
	}
	spoil(fresh)
	if cols[0].Kind != 'y' || cols[:len(mixed)+1][len(mixed)].Kind != 'x' || !slices.Equal(cols[1:], mixed[1:]) {
		t.Fatalf("the columns are shared: %s", shown(cols))
	}
	was := with(t, Pack(with(t, made(t, number), nums(0, 30)...)), num(1, 3), num(-1, 4), num(1, 40))
	l := []api.Times{num(1, 50), num(-2, 3), num(1, 4), num(0, 8)}
	room, more := roomyTable(was), roomy(l)
	wantRows, _ := Rows(deepTable(was))
	want, packed := with(t, deepTable(was), l...), Pack(deepTable(was))
	for range 2 {
		rows, _ := Rows(room)
		next, e := Apply(room, more)
		full := Pack(room)
		if e != api.OK || !same(rows, wantRows) || !equal(next, want) || !equal(full, packed) {
			t.Fatalf("other answers: %s", shown(rows, next, full, e))
		}
		spoilRows(rows)
		if !equal(next, want) || !equal(full, packed) || !sparedTable(room, was) {
			t.Fatal("rows are shared")
		}
		spoil(next)
		if !equal(full, packed) || !sparedTable(room, was) || !spared(more, l) {
			t.Fatal("Apply's answer is shared")
		}
		spoil(full)
		if !sparedTable(room, was) {
			t.Fatal("Pack's answer is shared")
		}
		Check(room, more)
		for _, wrong := range [][]api.Times{{num(-9, 3)}, {num(1<<20, 3)}, {at(1)}} {
			if got, e := Apply(room, wrong); e == api.OK || !equal(got, was) {
				t.Fatalf("%s: %s", shown(wrong), shown(got, e))
			}
		}
		if !sparedTable(room, was) || !spared(more, l) {
			t.Fatal("what is handed in is changed")
		}
	}
}

// Any number of goroutines may call at once, of one table too.
func TestAtOnce(t *testing.T) {
	x := with(t, Pack(with(t, made(t, number), nums(0, 100)...)), num(1, 7), num(-1, 8))
	l := append(nums(100, 150), num(-2, 7))
	rows, many := Rows(x)
	want, packed := with(t, x, l...), Pack(x)
	var all sync.WaitGroup
	for range 8 {
		all.Go(func() {
			for range 10 {
				got, n := Rows(x)
				next, e := Apply(x, l)
				y, f := New("abc", number)
				same, under := Apply(x, []api.Times{num(-1, 8)})
				if e != api.OK || f != api.OK || n != many || under != api.ErrUnder || !equal(same, x) || !equal(next, want) || !equal(Pack(x), packed) || !equal(y, api.Table{Name: "abc", Cols: number}) || Check(x, l) != api.OK || len(got) != len(rows) {
					t.Error("calls at once aren't as one alone")
				}
			}
		})
	}
	all.Wait()
}
