package shape

import (
	"math"
	"slices"
	"strings"
	"testing"

	"distiller/api"
	"distiller/cell"
)

// cells are of each kind: nothing, the ends of int, and texts of up to just MaxText (16) bytes.
func cells() []string {
	return []string{
		"", cell.Bool(false), cell.Bool(true), cell.Int(math.MinInt), cell.Int(-1), cell.Int(0), cell.Int(math.MaxInt),
		cell.Text(""), cell.Text("a"), cell.Text("\x00"), cell.Text("\xff\xfe"), cell.Text("0123456789abcdef"), cell.Text(strings.Repeat("\x00", 16)),
	}
}

// wrongCells are texts that may not be cells.
func wrongCells() []string {
	return []string{
		"\x00", "\x00\x00", "x", "xy", "zz", "T", "B\x01", "\xff", "b", "b\x02", "b\x00\x00", "i", cell.Int(0)[:8], cell.Int(0) + "\x00",
		cell.Text("0123456789abcdefg"), cell.Text(strings.Repeat("\x00", 17)), cell.Text(strings.Repeat("x", 1<<16)),
	}
}

// isKind is what Kind is to be.
func isKind(k int) bool {
	return k == 'b' || k == 'i' || k == 't'
}

// listsOf are all lists of up to most of these, in order, where these are: each ahead of those that it is the beginning of.
func listsOf[T any](these []T, most int) [][]T {
	var l [][]T
	var all func(ahead []T)
	all = func(ahead []T) {
		l = append(l, ahead)
		if len(ahead) == most {
			return
		}
		for _, x := range these {
			all(append(slices.Clip(ahead), x))
		}
	}
	all(nil)
	return l
}

// P9.1: each byte.
func TestKindOfEachByte(t *testing.T) {
	for k := range 256 {
		if got := Kind(byte(k)); got != isKind(k) {
			t.Errorf("Kind(%d) = %v", k, got)
		}
	}
	if !Kind(api.KindBool) || !Kind(api.KindInt) || !Kind(api.KindText) || Kind(api.KindNone) {
		t.Error("Kind isn't of the given ones")
	}
}

// P9.1: no columns, as many as there may be, and more.
func TestRightOfSoManyColumns(t *testing.T) {
	for many := range 40 {
		cols := slices.Repeat([]api.Col{{Kind: 'i'}}, many)
		if got := Right(cols); got != (many >= 1 && many <= 6) {
			t.Errorf("Right of %d = %v", many, got)
		}
		if Right(make([]api.Col, many)) {
			t.Errorf("Right of %d without a kind", many)
		}
	}
	if Right(nil) || Right([]api.Col{}) || Right(slices.Repeat([]api.Col{{Kind: 't', Null: true}}, 256+1)) || Right(slices.Repeat([]api.Col{{Kind: 't'}}, 1<<16)) {
		t.Error("Right of none, or of very many")
	}
}

// P9.1: each byte as a kind, wherever it stands; that nothing may be there is all one.
func TestRightOfEachKind(t *testing.T) {
	for k := range 256 {
		for many := 1; many <= 6; many++ {
			for place := range many {
				for _, null := range []bool{false, true} {
					cols := slices.Repeat([]api.Col{{Kind: 't', Null: !null}}, many)
					cols[place] = api.Col{Kind: byte(k), Null: null}
					if got := Right(cols); got != isKind(k) {
						t.Fatalf("Right(%v) = %v", cols, got)
					}
				}
			}
		}
	}
}

// P9.1: all short lists of columns, those that may be and those that may not side by side.
func TestRightOfShortLists(t *testing.T) {
	for _, cols := range listsOf([]api.Col{{Kind: 'b'}, {Kind: 'i', Null: true}, {Kind: 't'}, {Kind: 'x'}, {}}, 4) {
		wrong := slices.ContainsFunc(cols, func(c api.Col) bool { return !isKind(int(c.Kind)) })
		if got := Right(cols); got != (len(cols) > 0 && !wrong) {
			t.Fatalf("Right(%v) = %v", cols, got)
		}
	}
}

// P9.1: names written out: no letter, 12 of them, one more, and what is no small letter.
func TestNameIsSmallLetters(t *testing.T) {
	for _, s := range []string{
		"a", "z", "m", "aa", "az", "abcdefghijk", "abcdefghijkl", "nopqrstuvwxy", "zzzzzzzzzzzz", "aaaaaaaaaaaa",
	} {
		if !Name(s) {
			t.Errorf("%q is no name", s)
		}
	}
	for _, s := range []string{
		"", "abcdefghijklm", "aaaaaaaaaaaaa", strings.Repeat("a", 24), strings.Repeat("a", 256+1), strings.Repeat("a", 1<<16),
		"A", "Z", "Abc", "aBc", "abC", "ABCDEFGHIJKL", "abcdefghijkL", "a b", " a", "a ", "a-b", "a_b", "a1", "1", "0", "\x00", "a\x00", "\x00a", "`", "{", "@", "[",
		"ä", "ü", "aü", "é", "ı", "ａ", "а", "\xe1", "a\xe1", "\xff", "abcdefghijk\xff", "\u0161", "\u0161\u0161", "\U00010061",
	} {
		if Name(s) {
			t.Errorf("%q is a name", s)
		}
	}
}

// P9.1: each byte, wherever it stands, in a name of each length and one more.
func TestNameOfEachByte(t *testing.T) {
	for many := 1; many <= 13; many++ {
		for place := range many {
			for k := range 256 {
				s := []byte(strings.Repeat("q", many))
				s[place] = byte(k)
				want := many <= 12 && k >= 'a' && k <= 'z'
				if got := Name(string(s)); got != want {
					t.Fatalf("Name(%q) = %v", s, got)
				}
			}
		}
	}
}

// P9.1: written out: something of the column's kind, or nothing where it may be.
func TestFitsIsOfThatKindOrNothing(t *testing.T) {
	for _, x := range []struct {
		kind       byte
		s          string
		some, null bool
	}{
		{'b', "b\x00", true, true}, {'b', "b\x01", true, true}, {'i', "i\x80\x00\x00\x00\x00\x00\x00\x05", true, true}, {'t', "t", true, true}, {'t', "ta", true, true},
		{'b', "", false, true}, {'i', "", false, true}, {'t', "", false, true},
		{'b', "tb", false, false}, {'b', cell.Int(1), false, false}, {'i', cell.Bool(true), false, false}, {'i', "ti", false, false}, {'t', cell.Bool(false), false, false}, {'t', cell.Int(0), false, false},
		{'i', "i", false, false}, {'i', cell.Int(7)[:8], false, false}, {'i', cell.Int(7) + "\x00", false, false}, {'b', "b", false, false}, {'b', "b\x02", false, false}, {'b', "b\x00\x00", false, false},
		{'t', cell.Text("0123456789abcdef"), true, true}, {'t', cell.Text("0123456789abcdefg"), false, false},
		{'x', "x", false, false}, {'x', "", false, true}, {0, "", false, true}, {0, "\x00", false, false}, {0, "ta", false, false}, {255, "\xff", false, false}, {'T', "ta", false, false}, {'T', "Ta", false, false},
	} {
		if got := Fits(api.Col{Kind: x.kind}, x.s); got != x.some {
			t.Errorf("Fits(%q, %q) = %v", x.kind, x.s, got)
		}
		if got := Fits(api.Col{Kind: x.kind, Null: true}, x.s); got != x.null {
			t.Errorf("Fits(%q or nothing, %q) = %v", x.kind, x.s, got)
		}
	}
}

// P9.1: each cell, and each text that is none, in a column of each byte as a kind.
func TestFitsOfEachKind(t *testing.T) {
	for i, s := range append(cells(), wrongCells()...) {
		right := i < len(cells())
		for k := range 256 {
			for _, null := range []bool{false, true} {
				want := s == "" && null || s != "" && right && int(s[0]) == k
				if got := Fits(api.Col{Kind: byte(k), Null: null}, s); got != want {
					t.Fatalf("Fits(%d, %v, %.20q) = %v", k, null, s, got)
				}
			}
		}
	}
}

// P9.1: written out: how many cells is asked ahead of what they are.
func TestRowIsAskedInOrder(t *testing.T) {
	one, a := cell.Int(1), cell.Text("a")
	number, text := api.Col{Kind: 'i'}, api.Col{Kind: 't', Null: true}
	both := []api.Col{number, text}
	for _, x := range []struct {
		cols []api.Col
		row  []string
		want api.Errno
	}{
		{both, []string{one, a}, api.OK}, {both, []string{one, ""}, api.OK}, {both, []string{one, "t"}, api.OK},
		{both, nil, api.ErrArg}, {both, []string{}, api.ErrArg}, {both, []string{one}, api.ErrArg}, {both, []string{one, a, a}, api.ErrArg}, {both, []string{one, a, ""}, api.ErrArg},
		{both, []string{""}, api.ErrArg}, {both, []string{"x"}, api.ErrArg}, {both, []string{"", a, a}, api.ErrArg}, {both, []string{one, "x", a}, api.ErrArg}, {both, []string{one, a, "x"}, api.ErrArg},
		{both, []string{"", a}, api.ErrKind}, {both, []string{"", ""}, api.ErrKind}, {both, []string{a, one}, api.ErrKind}, {both, []string{a, a}, api.ErrKind}, {both, []string{one, one}, api.ErrKind},
		{both, []string{one, "x"}, api.ErrKind}, {both, []string{"i", a}, api.ErrKind}, {both, []string{one, cell.Text("0123456789abcdefg")}, api.ErrKind}, {both, []string{one[:8], a}, api.ErrKind},
		{nil, nil, api.OK}, {nil, []string{}, api.OK}, {[]api.Col{}, nil, api.OK}, {nil, []string{""}, api.ErrArg}, {nil, []string{one}, api.ErrArg},
		{[]api.Col{text}, []string{""}, api.OK}, {[]api.Col{text}, []string{one}, api.ErrKind}, {[]api.Col{text}, nil, api.ErrArg}, {[]api.Col{number}, []string{""}, api.ErrKind},
		{[]api.Col{{Kind: 'x'}}, []string{"x"}, api.ErrKind}, {[]api.Col{{Kind: 'x', Null: true}}, []string{""}, api.OK}, {[]api.Col{{}}, []string{""}, api.ErrKind},
		{[]api.Col{{Kind: 'x'}}, nil, api.ErrArg}, {make([]api.Col, 7), make([]string, 6), api.ErrArg}, {make([]api.Col, 7), make([]string, 7), api.ErrKind},
	} {
		if got := Row(x.cols, x.row); got != x.want {
			t.Errorf("Row(%v, %q) = %d, not %d", x.cols, x.row, got, x.want)
		}
	}
}

// P9.1: each number of columns with each number of cells, a few more than there may be too.
func TestRowOfSoManyCells(t *testing.T) {
	for cols := range 10 {
		for many := range 10 {
			for _, c := range []string{cell.Bool(true), "", cell.Int(0), "x"} {
				want := api.OK
				if cols != many {
					want = api.ErrArg
				} else if many > 0 && c != cell.Bool(true) {
					want = api.ErrKind
				}
				if got := Row(slices.Repeat([]api.Col{{Kind: 'b'}}, cols), slices.Repeat([]string{c}, many)); got != want {
					t.Fatalf("Row of %d columns, %d of %q = %d, not %d", cols, many, c, got, want)
				}
			}
		}
	}
}

// P9.1: one that doesn't fit is told wherever it stands, and each cell is held against its own column.
func TestRowOfEachPlace(t *testing.T) {
	cols := []api.Col{{Kind: 'i'}, {Kind: 't', Null: true}, {Kind: 'b'}, {Kind: 'i', Null: true}, {Kind: 't'}, {Kind: 'b', Null: true}}
	row := []string{cell.Int(1), "ta", cell.Bool(true), cell.Int(2), "tb", cell.Bool(false)}
	for place, col := range cols {
		for i, s := range append(cells(), wrongCells()...) {
			want := api.ErrKind
			if s == "" && col.Null || s != "" && i < len(cells()) && s[0] == col.Kind {
				want = api.OK
			}
			with := slices.Clone(row)
			with[place] = s
			if got := Row(cols, with); got != want {
				t.Fatalf("Row with %.20q at %d = %d, not %d", s, place, got, want)
			}
			if got := Row(cols, append(with, s)); got != api.ErrArg {
				t.Fatalf("Row with %.20q at %d, and one more = %d", s, place, got)
			}
			if got := Row(cols, with[:5]); got != api.ErrArg {
				t.Fatalf("Row with %.20q at %d, without the last = %d", s, place, got)
			}
		}
	}
}

// P9.1: written out: the first cell that is unlike tells; where there is none, the shorter one stands ahead.
func TestCompareTellsWhichStandsAhead(t *testing.T) {
	one, two, a := cell.Int(1), cell.Int(2), cell.Text("a")
	for _, x := range []struct {
		a, b []string
		want int
	}{
		{nil, nil, 0}, {nil, []string{}, 0}, {[]string{}, nil, 0}, {nil, []string{""}, -1}, {[]string{""}, []string{}, 1}, {[]string{""}, []string{"", ""}, -1},
		{[]string{a}, []string{a, one}, -1}, {[]string{a, one}, []string{a}, 1}, {[]string{a}, []string{a, ""}, -1}, {[]string{a, a, a}, []string{a, a}, 1}, {[]string{a}, []string{a, a, a, a, a, a, a}, -1},
		{[]string{one}, []string{two}, -1}, {[]string{two}, []string{one}, 1}, {[]string{one, a}, []string{one, a}, 0}, {[]string{""}, []string{one}, -1},
		{[]string{two}, []string{one, one}, 1}, {[]string{one, two}, []string{two}, -1}, {[]string{one, a, ""}, []string{one, "", a}, 1}, {[]string{one, ""}, []string{"", two, a}, 1},
		{[]string{cell.Int(-1)}, []string{cell.Int(0)}, -1}, {[]string{cell.Int(math.MinInt)}, []string{cell.Int(math.MaxInt)}, -1}, {[]string{cell.Bool(true)}, []string{cell.Int(0)}, -1}, {[]string{cell.Bool(true)}, []string{cell.Bool(false)}, 1},
		{[]string{"t"}, []string{"ta"}, -1}, {[]string{"ta", "tz"}, []string{"taa", "ta"}, -1}, {[]string{"taa"}, []string{"ta", "ta"}, 1}, {[]string{"ta\x00"}, []string{"ta", "\x00"}, 1}, {[]string{"tZ"}, []string{"ta"}, -1},
		{[]string{"t\x7f"}, []string{"t\x80"}, -1}, {[]string{"t\xff"}, []string{"tz"}, 1}, {[]string{"t\xff"}, []string{"tü"}, 1}, {[]string{"x"}, []string{"t"}, 1}, {[]string{"\xff", "a"}, []string{"\xff", "b"}, -1},
	} {
		if got := Compare(x.a, x.b); got != x.want {
			t.Errorf("Compare(%q, %q) = %d, not %d", x.a, x.b, got, x.want)
		}
	}
}

// P9.1, P9.2: rows laid out in order, each held against each: just those that are the same are 0, of all others one stands ahead.
func TestRowsStandInOrder(t *testing.T) {
	rising := []string{"", "\x00", cell.Bool(true), cell.Int(-1), cell.Int(0), "t", "t\x00", "ta", "taa", "t\xff", "x"}
	l := listsOf(rising, 3)
	for i, a := range l {
		for j, b := range l {
			if got := Compare(a, b); got != min(max(i-j, -1), 1) {
				t.Fatalf("Compare(%q, %q) = %d", a, b, got)
			}
		}
	}
}

// P9.2: of rows of six cells, and of more, each place tells alone, and those behind it don't.
func TestEachPlaceTells(t *testing.T) {
	for many := 1; many <= 9; many++ {
		for place := range many {
			a := slices.Repeat([]string{"tm"}, many)
			b := slices.Clone(a)
			if got := Compare(a, b); got != 0 {
				t.Fatalf("Compare of %d that are the same = %d", many, got)
			}
			b[place] = "tn"
			for behind := place + 1; behind < many; behind++ {
				b[behind] = "ta"
			}
			for _, end := range []int{many, place + 1} {
				if ahead, after := Compare(a, b[:end]), Compare(b[:end], a); ahead != -1 || after != 1 {
					t.Fatalf("Compare of %d, unlike at %d, and %d = %d, %d", many, place, end, ahead, after)
				}
			}
		}
	}
}

// P9.1: written out: in the order of the columns that are told.
func TestPickIsInOrder(t *testing.T) {
	row := []string{"ta", "tb", "tc", ""}
	for _, x := range []struct {
		row  []string
		cols []int
		want []string
		has  bool
	}{
		{row, []int{0}, []string{"ta"}, true}, {row, []int{3}, []string{""}, true}, {row, []int{0, 1, 2, 3}, row, true}, {row, []int{2, 0}, []string{"tc", "ta"}, true},
		{row, []int{1, 1}, []string{"tb", "tb"}, true}, {row, []int{1, 0, 1, 3, 1}, []string{"tb", "ta", "tb", "", "tb"}, true}, {row, []int{0, 0, 0, 0, 0, 0, 0, 0}, slices.Repeat([]string{"ta"}, 8), true},
		{row, nil, nil, true}, {row, []int{}, nil, true}, {nil, nil, nil, true}, {[]string{}, []int{}, nil, true},
		{row, []int{-1}, nil, false}, {row, []int{4}, nil, false}, {row, []int{0, 4}, nil, false}, {row, []int{4, 0}, nil, false}, {row, []int{0, -1, 1}, nil, false}, {row, []int{0, 1, 2, 3, 4}, nil, false},
		{row, []int{math.MinInt}, nil, false}, {row, []int{math.MaxInt}, nil, false}, {row, []int{1 << 32}, nil, false}, {row, []int{-1 << 32}, nil, false}, {row, []int{math.MinInt, math.MaxInt}, nil, false},
		{nil, []int{0}, nil, false}, {[]string{}, []int{0}, nil, false}, {nil, []int{-1}, nil, false}, {[]string{""}, []int{1}, nil, false},
		{[]string{"x", "\x00"}, []int{1, 0}, []string{"\x00", "x"}, true}, {slices.Repeat([]string{"ta"}, 300), []int{299, 256}, []string{"ta", "ta"}, true}, {slices.Repeat([]string{"ta"}, 300), []int{300}, nil, false},
		{row[:2], []int{2}, nil, false}, {row[:0], []int{0}, nil, false},
	} {
		if got, has := Pick(x.row, x.cols); has != x.has || !slices.Equal(got, x.want) {
			t.Errorf("Pick(%q, %v) = %q, %v, not %q, %v", x.row, x.cols, got, has, x.want, x.has)
		}
	}
}

// P9.1: all short lists of columns, those below 0 and behind the last too, of rows of up to three cells.
func TestPickOfShortLists(t *testing.T) {
	room := []string{"ta", "tb", "tc", "td", "te"}
	for many := range 4 {
		for _, cols := range listsOf([]int{-2, -1, 0, 1, 2, 3, 4}, 4) {
			var want []string
			has := !slices.ContainsFunc(cols, func(c int) bool { return c < 0 || c >= many })
			if has {
				for _, c := range cols {
					want = append(want, "t"+string(rune('a'+c)))
				}
			}
			if got, is := Pick(room[:many], cols); is != has || !slices.Equal(got, want) {
				t.Fatalf("Pick(%q, %v) = %q, %v, not %q, %v", room[:many], cols, got, is, want, has)
			}
		}
	}
}

// What is handed in isn't changed, its spare room neither, and answers are new memory.
func TestNothingIsChangedOrShared(t *testing.T) {
	rows, places := []string{"ta", "", "tb", "tc", "x"}, []int{0, 1, 2, 3, 0}
	kinds := []api.Col{{Kind: 't'}, {Kind: 't', Null: true}, {Kind: 't'}, {Kind: 'x'}}
	wasRows, wasPlaces, wasKinds := slices.Clone(rows), slices.Clone(places), slices.Clone(kinds)
	row, at, cols := rows[:3], places[:3], kinds[:3]
	for range 2 {
		if !Right(cols) || Row(cols, row) != api.OK || Compare(row, rows[:2]) != 1 {
			t.Error("the row doesn't fit")
		}
		Right(kinds)
		Row(kinds, row)
		got, has := Pick(row, at)
		if !has || !slices.Equal(got, wasRows[:3]) {
			t.Errorf("Pick = %q, %v", got, has)
		}
		for i := range got {
			got[i] = "changed"
		}
		_ = append(got, "more")
		if !slices.Equal(rows, wasRows) || !slices.Equal(places, wasPlaces) || !slices.Equal(kinds, wasKinds) {
			t.Fatalf("%q, %v, %v", rows, places, kinds)
		}
	}
}
