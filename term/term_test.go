package term

import (
	"fmt"
	"math"
	"slices"
	"strings"
	"sync"
	"testing"

	"distiller/api"
	"distiller/cell"
)

const (
	yes     = "b\x01"
	no      = "b\x00"
	nothing = ""
)

// ops are all there are, some of them of two parts, and some of one.
var (
	ops   = []byte{'c', 'k', '=', '<', '&', '|', '!', '?'}
	ofTwo = []byte{'=', '<', '&', '|'}
	ofOne = []byte{'!', '?'}
)

// col is a column.
func col(c int) api.Term { return api.Term{Op: 'c', Col: c} }

// con is a constant.
func con(c string) api.Term { return api.Term{Op: 'k', Cell: c} }

// of is the op of these parts.
func of(op byte, parts ...api.Term) api.Term { return api.Term{Op: op, Kids: parts} }

// deep is the term in memory of its own.
func deep(t api.Term) api.Term {
	var kids []api.Term
	for _, k := range t.Kids {
		kids = append(kids, deep(k))
	}
	t.Kids = kids
	return t
}

// same tells whether two terms are the same, part by part, field by field.
func same(a, b api.Term) bool {
	return a.Op == b.Op && a.Col == b.Col && a.Cell == b.Cell && slices.EqualFunc(a.Kids, b.Kids, same)
}

// zero tells whether a term is the zero one.
func zero(t api.Term) bool { return same(t, api.Term{}) }

// shown is a term for an error's text, cut short.
func shown(t api.Term) string { return fmt.Sprintf("%.300s", write(t)) }

func write(t api.Term) string {
	switch t.Op {
	case 'c':
		return fmt.Sprintf("c%d%s", t.Col, writeKids(t))
	case 'k':
		return fmt.Sprintf("%q%s", t.Cell, writeKids(t))
	}
	return fmt.Sprintf("%q%s", t.Op, writeKids(t))
}

func writeKids(t api.Term) string {
	if len(t.Kids) == 0 {
		return ""
	}
	var s []string
	for _, k := range t.Kids {
		s = append(s, write(k))
	}
	return "(" + strings.Join(s, ", ") + ")"
}

// want is what a term comes to by the chapter's words, each in its own way: what is yes, what is no, and all else nothing.
func want(t api.Term, row []string) string {
	var parts []string
	for _, k := range t.Kids {
		parts = append(parts, want(k, row))
	}
	parts = append(parts, nothing, nothing)
	a, b := parts[0], parts[1]
	isYes, isNo := false, false
	switch t.Op {
	case 'c':
		for i, c := range row {
			if i == t.Col {
				return c
			}
		}
	case 'k':
		return t.Cell
	case '=':
		isYes, isNo = a != nothing && a == b, a != nothing && b != nothing && a != b
	case '<':
		isYes, isNo = a != nothing && strings.Compare(a, b) < 0, b != nothing && strings.Compare(a, b) >= 0
	case '&':
		isYes, isNo = a == yes && b == yes, a == no || b == no
	case '|':
		isYes, isNo = a == yes || b == yes, a != nothing && a != yes && b != nothing && b != yes
	case '!':
		isYes, isNo = a != nothing && a != yes, a == yes
	case '?':
		isYes, isNo = a == nothing, a != nothing
	}
	switch {
	case isYes:
		return yes
	case isNo:
		return no
	}
	return nothing
}

// leaves are columns, such that no row here has too, and constants of each kind.
func leaves() []api.Term {
	return []api.Term{col(0), col(1), col(3), col(-1), con(nothing), con(yes), con(no), con(cell.Int(1)), con(cell.Text("b\x01"))}
}

// over are these, and each op of them.
func over(l []api.Term) []api.Term {
	all := slices.Clone(l)
	for _, a := range l {
		for _, op := range ofOne {
			all = append(all, of(op, a))
		}
		for _, b := range l {
			for _, op := range ofTwo {
				all = append(all, of(op, a, b))
			}
		}
	}
	return all
}

// rows are such as have each kind of cell, and one without any.
func rows() [][]string {
	return [][]string{{yes, no, nothing}, {nothing, yes, yes}, {cell.Int(1), cell.Int(2)}, {cell.Text("b\x01"), nothing}, {}}
}

// raw are texts that are cells and such as aren't.
func raw() []string {
	return []string{
		nothing, no, yes, cell.Int(math.MinInt), cell.Int(-1), cell.Int(0), cell.Int(1), cell.Int(math.MaxInt), cell.Text(""), cell.Text("a"),
		cell.Text("aa"), cell.Text("b"), cell.Text("\xff"), "\x00", "\x00b", "a", "b", "b\x00\x00", "b\x01\x00", "b\x02", "c", "i", "\xff", strings.Repeat("t", 40),
	}
}

// P15.1: of c the row's cell in Col, at each place, and nothing where the row has none; its Cell doesn't count.
func TestEvalColumn(t *testing.T) {
	row := raw()
	for i, c := range row {
		if got := Eval(col(i), row); got != c {
			t.Errorf("column %d of %q: %q", i, row, got)
		}
		if got := Eval(api.Term{Op: 'c', Col: i, Cell: yes}, row); got != c {
			t.Errorf("column %d with a Cell: %q", i, got)
		}
		if got := Eval(col(i), row[:i]); got != nothing {
			t.Errorf("column %d of %d cells: %q", i, i, got)
		}
	}
	for _, c := range []int{-1, -2, len(row), len(row) + 1, math.MinInt, math.MaxInt, 1 << 32, -1 << 32, 256, math.MinInt32} {
		if got := Eval(col(c), row); got != nothing {
			t.Errorf("column %d: %q", c, got)
		}
	}
	if got := Eval(col(0), row[1:][:0]); got != nothing {
		t.Errorf("a cell of the row's spare room: %q", got)
	}
	if Eval(col(0), nil) != nothing || Eval(col(0), []string{}) != nothing {
		t.Error("of no row there is a cell")
	}
}

// P15.1: of k its Cell, whatever it is, of any row; its Col doesn't count.
func TestEvalConstant(t *testing.T) {
	for _, c := range raw() {
		for _, row := range rows() {
			if got := Eval(con(c), row); got != c {
				t.Errorf("constant %q: %q", c, got)
			}
			if got := Eval(api.Term{Op: 'k', Cell: c, Col: 1}, row); got != c {
				t.Errorf("constant %q with a Col: %q", c, got)
			}
		}
		if got := Eval(con(c), nil); got != c {
			t.Errorf("constant %q of no row: %q", c, got)
		}
	}
}

// P15.1: of = and < yes, or no, as the texts stand, if neither is nothing: of each two cells, as constants, and as the row's.
func TestEvalSameAndLess(t *testing.T) {
	for _, x := range []struct{ a, b, same, less string }{
		{cell.Int(5), cell.Int(9), no, yes},
		{cell.Int(9), cell.Int(5), no, no},
		{cell.Int(5), cell.Int(5), yes, no},
		{cell.Int(-1), cell.Int(0), no, yes},
		{cell.Int(0), cell.Int(-1), no, no},
		{cell.Int(math.MinInt), cell.Int(math.MaxInt), no, yes},
		{cell.Int(math.MaxInt), cell.Int(math.MinInt), no, no},
		{no, yes, no, yes},
		{yes, no, no, no},
		{yes, yes, yes, no},
		{no, no, yes, no},
		{cell.Text(""), cell.Text("a"), no, yes},
		{cell.Text("a"), cell.Text("aa"), no, yes},
		{cell.Text("b"), cell.Text("aa"), no, no},
		{cell.Text("a"), cell.Text("\xff"), no, yes},
		{cell.Text(""), cell.Text(""), yes, no},
		// Of two kinds too: as texts they stand by their signs.
		{yes, cell.Int(math.MinInt), no, yes},
		{cell.Int(math.MaxInt), cell.Text(""), no, yes},
		{cell.Text(""), no, no, no},
		{nothing, nothing, nothing, nothing},
		{nothing, cell.Int(1), nothing, nothing},
		{cell.Int(1), nothing, nothing, nothing},
		{nothing, no, nothing, nothing},
		{yes, nothing, nothing, nothing},
		{nothing, cell.Text(""), nothing, nothing},
		{cell.Text(""), nothing, nothing, nothing},
		// A text that begins with a byte 0 is no cell, and is something.
		{"\x00", "\x00", yes, no},
		{"\x00", no, no, yes},
		{nothing, "\x00", nothing, nothing},
	} {
		isPair(t, x.a, x.b, x.same, x.less)
	}
	for _, a := range raw() {
		for _, b := range raw() {
			row := []string{a, b}
			isPair(t, a, b, want(of('=', col(0), col(1)), row), want(of('<', col(0), col(1)), row))
		}
	}
}

// isPair asks = and < of two cells, as constants, and as a row's.
func isPair(t *testing.T, a, b, same, less string) {
	t.Helper()
	row := []string{b, a}
	for _, l := range [][]api.Term{{con(a), con(b)}, {col(1), con(b)}, {con(a), col(0)}, {col(1), col(0)}} {
		if got := Eval(of('=', l...), row); got != same {
			t.Errorf("%q = %q: %q, not %q", a, b, got, same)
		}
		if got := Eval(of('<', l...), row); got != less {
			t.Errorf("%q < %q: %q, not %q", a, b, got, less)
		}
	}
}

// others are something that is neither yes nor no.
func others() []string {
	return slices.DeleteFunc(raw(), func(c string) bool { return c == nothing || c == yes || c == no })
}

// P15.1: & and | of each two of yes, no, nothing and something else, written out.
func TestEvalBothAndOneOf(t *testing.T) {
	const else1, else2 = "else", "else too"
	for _, x := range []struct{ a, b, both, oneOf string }{
		{yes, yes, yes, yes}, {yes, no, no, yes}, {yes, nothing, nothing, yes}, {yes, else1, nothing, yes},
		{no, yes, no, yes}, {no, no, no, no}, {no, nothing, no, nothing}, {no, else1, no, no},
		{nothing, yes, nothing, yes}, {nothing, no, no, nothing}, {nothing, nothing, nothing, nothing}, {nothing, else1, nothing, nothing},
		{else1, yes, nothing, yes}, {else1, no, no, no}, {else1, nothing, nothing, nothing}, {else1, else2, nothing, no},
	} {
		for _, c := range others() {
			for _, d := range others() {
				put := func(s string) string {
					switch s {
					case else1:
						return c
					case else2:
						return d
					}
					return s
				}
				a, b := put(x.a), put(x.b)
				row := []string{a, b}
				for _, l := range [][]api.Term{{con(a), con(b)}, {col(0), col(1)}} {
					if got := Eval(of('&', l...), row); got != x.both {
						t.Errorf("%q & %q: %q, not %q", a, b, got, x.both)
					}
					if got := Eval(of('|', l...), row); got != x.oneOf {
						t.Errorf("%q | %q: %q, not %q", a, b, got, x.oneOf)
					}
				}
			}
		}
	}
}

// P15.1: | is ! of & of ! of both, of whatever both are.
func TestEvalOneOfByOthers(t *testing.T) {
	for _, a := range raw() {
		for _, b := range raw() {
			byOthers := of('!', of('&', of('!', con(a)), of('!', con(b))))
			if got, by := Eval(of('|', con(a), con(b)), nil), Eval(byOthers, nil); got != by {
				t.Errorf("%q | %q: %q, not %q", a, b, got, by)
			}
		}
	}
}

// P15.1: ! of something is yes, unless it is yes, and of nothing nothing; ? tells whether it is nothing, and is never nothing itself.
func TestEvalOtherAndNothing(t *testing.T) {
	for _, c := range raw() {
		wantOther, wantNone := yes, no
		switch c {
		case yes:
			wantOther = no
		case nothing:
			wantOther, wantNone = nothing, yes
		}
		for _, x := range []api.Term{con(c), col(1)} {
			row := []string{"x", c}
			if got := Eval(of('!', x), row); got != wantOther {
				t.Errorf("! of %q: %q, not %q", c, got, wantOther)
			}
			if got := Eval(of('?', x), row); got != wantNone {
				t.Errorf("? of %q: %q, not %q", c, got, wantNone)
			}
		}
	}
	if Eval(of('?', col(9)), []string{yes}) != yes || Eval(of('!', col(9)), []string{yes}) != nothing {
		t.Error("a cell that the row hasn't isn't nothing")
	}
}

// P15.1: nothing of all else: of each Op that there isn't, whatever its parts, its Col and its Cell are.
func TestEvalNoSuchOp(t *testing.T) {
	row := []string{yes, no}
	for op := range 256 {
		b := byte(op)
		if slices.Contains(ops, b) {
			continue
		}
		for _, kids := range [][]api.Term{nil, {con(yes)}, {con(yes), con(yes)}, {col(0), col(1), con(no)}} {
			x := api.Term{Op: b, Col: 1, Cell: yes, Kids: kids}
			if got := Eval(x, row); got != nothing {
				t.Errorf("%s: %q", shown(x), got)
			}
			if got := Eval(of('?', x), row); got != yes {
				t.Errorf("? of %s: %q", shown(x), got)
			}
		}
	}
	if Eval(api.Term{}, row) != nothing {
		t.Error("the zero term is something")
	}
}

// P15.1: a part that isn't there is nothing.
func TestEvalPartThatIsNot(t *testing.T) {
	for _, x := range []struct {
		t    api.Term
		want string
	}{
		{of('='), nothing}, {of('=', con(yes)), nothing}, {of('=', con(nothing)), nothing},
		{of('<'), nothing}, {of('<', con(yes)), nothing}, {of('<', con(nothing)), nothing},
		{of('&'), nothing}, {of('&', con(yes)), nothing}, {of('&', con(no)), no},
		{of('|'), nothing}, {of('|', con(yes)), yes}, {of('|', con(no)), nothing}, {of('|', con(cell.Int(1))), nothing},
		{of('!'), nothing}, {of('?'), yes},
		{of('!', of('?')), no}, {of('?', of('!')), yes}, {of('!', of('!')), nothing},
	} {
		for _, row := range rows() {
			if got := Eval(x.t, row); got != x.want {
				t.Errorf("%s: %q, not %q", shown(x.t), got, x.want)
			}
		}
	}
	// The part is not there, even where the list has spare room.
	room := []api.Term{con(yes), con(yes)}
	if Eval(api.Term{Op: '&', Kids: room[:1]}, nil) != nothing || Eval(api.Term{Op: '!', Kids: room[:0]}, nil) != nothing {
		t.Error("a part of the spare room counts")
	}
}

// P15.1: one part more doesn't count, whatever it is.
func TestEvalPartMore(t *testing.T) {
	for _, more := range append(leaves(), of('?'), of('x'), of('!', con(yes)), of('&', con(no), con(no))) {
		for _, row := range rows() {
			for _, a := range leaves() {
				for _, op := range ofOne {
					isWith(t, of(op, a), more, row)
				}
				isWith(t, a, more, row)
				for _, b := range leaves() {
					for _, op := range ofTwo {
						isWith(t, of(op, a, b), more, row)
					}
				}
			}
		}
	}
}

// isWith asks that a term comes to the same with one part more, and with two.
func isWith(t *testing.T, x, more api.Term, row []string) {
	t.Helper()
	alone := Eval(x, row)
	for range 2 {
		x.Kids = append(slices.Clip(x.Kids), more)
		if got := Eval(x, row); got != alone {
			t.Fatalf("%s of %q: %q, not %q", shown(x), row, got, alone)
		}
	}
}

// P15.1: all terms of up to three ops one in another against the chapter's words.
func TestEvalAllShort(t *testing.T) {
	for _, x := range over(over(leaves()[:7])) {
		for _, row := range rows() {
			if got, w := Eval(x, row), want(x, row); got != w {
				t.Fatalf("%s of %q: %q, not %q", shown(x), row, got, w)
			}
		}
	}
}

// P15.1: terms of any ops, with any number of parts.
func TestEvalAnyForm(t *testing.T) {
	low := []api.Term{con(yes), con(no), con(nothing), col(0)}
	lists := [][]api.Term{nil}
	for _, a := range low {
		lists = append(lists, []api.Term{a})
		for _, b := range low {
			lists = append(lists, []api.Term{a, b}, []api.Term{b, a, a})
		}
	}
	var middle []api.Term
	for _, op := range append(slices.Clone(ops), 'x') {
		for _, l := range lists {
			middle = append(middle, api.Term{Op: op, Col: 1, Cell: no, Kids: l})
		}
	}
	for _, op := range append(slices.Clone(ops), 0) {
		for _, a := range middle {
			for i := 0; i < len(middle); i += 3 {
				x := of(op, a, middle[i])
				for _, row := range rows()[:3] {
					if got, w := Eval(x, row), want(x, row); got != w {
						t.Fatalf("%s of %q: %q, not %q", shown(x), row, got, w)
					}
				}
			}
		}
	}
}

// P15.1: how many parts, with the term itself, those that its Op doesn't ask for too.
func TestSize(t *testing.T) {
	leaf := con(yes)
	for _, x := range []struct {
		t    api.Term
		want int
	}{
		{api.Term{}, 1}, {leaf, 1}, {col(-1), 1}, {of('!', leaf), 2}, {of('?', leaf), 2},
		{of('=', leaf, leaf), 3}, {of('=', col(0), col(0)), 3}, {of('&', of('!', leaf), leaf), 4}, {of('&', leaf, of('!', leaf)), 4},
		{of('|', of('=', leaf, leaf), of('<', leaf, leaf)), 7},
		{of('='), 1}, {of('=', leaf), 2}, {of('=', leaf, leaf, leaf), 4}, {of('!', leaf, of('!', leaf)), 4},
		{of('c', leaf), 2}, {of('k', leaf, leaf), 3}, {of('x', leaf, of(0)), 3},
		{api.Term{Op: '&', Kids: []api.Term{leaf, leaf, leaf}[:1]}, 2},
		{of('!', of('!', of('!', of('!', leaf)))), 5},
	} {
		if got := Size(x.t); got != x.want {
			t.Errorf("Size of %s: %d, not %d", shown(x.t), got, x.want)
		}
	}
	for _, many := range []int{28, 29, 30, 31, 1 << 16} {
		if got := Size(of('&', make([]api.Term, many)...)); got != many+1 {
			t.Errorf("Size of one with %d parts: %d", many, got)
		}
	}
}

// count counts parts one by one, by a list of those that are left.
func count(x api.Term) int {
	left := []api.Term{x}
	many := 0
	for len(left) > 0 {
		last := left[len(left)-1]
		left = append(left[:len(left)-1], last.Kids...)
		many++
	}
	return many
}

// P15.1: all short terms, counted part by part.
func TestSizeAllShort(t *testing.T) {
	for _, x := range over(over(leaves()[:4])) {
		if got := Size(x); got != count(x) {
			t.Fatalf("Size of %s: %d, not %d", shown(x), got, count(x))
		}
	}
}

// P15.1: each c with the Col that stands in its place in to, written out.
func TestShift(t *testing.T) {
	nested := of('&', of('=', col(1), con(yes)), of('|', of('?', col(0)), of('<', col(2), col(1))))
	for _, x := range []struct {
		t    api.Term
		to   []int
		want api.Term
	}{
		{col(0), []int{3}, col(3)},
		{col(0), []int{0}, col(0)},
		{col(1), []int{-1, 0}, col(0)},
		{col(1), []int{-1, 7, -1}, col(7)},
		{col(2), []int{0, 1, math.MaxInt}, col(math.MaxInt)},
		{of('<', col(0), con(yes)), []int{3}, of('<', col(3), con(yes))},
		{of('=', col(0), col(1)), []int{1, 0}, of('=', col(1), col(0))},
		{of('=', col(0), col(1)), []int{4, 4}, of('=', col(4), col(4))},
		{nested, []int{5, 6, 7}, of('&', of('=', col(6), con(yes)), of('|', of('?', col(5)), of('<', col(7), col(6))))},
		// Without a c no place is asked for.
		{con(yes), nil, con(yes)},
		{of('!', con(no)), []int{-1}, of('!', con(no))},
		{api.Term{}, nil, api.Term{}},
		// The Col of all else stays, and a Cell, a c's too.
		{api.Term{Op: 'k', Col: 5, Cell: yes}, nil, api.Term{Op: 'k', Col: 5, Cell: yes}},
		{api.Term{Op: '!', Col: -1, Cell: "x", Kids: []api.Term{col(0)}}, []int{2}, api.Term{Op: '!', Col: -1, Cell: "x", Kids: []api.Term{col(2)}}},
		{api.Term{Op: 'C', Col: 0}, []int{2}, api.Term{Op: 'C', Col: 0}},
		{api.Term{Op: 'c', Col: 0, Cell: "x"}, []int{2}, api.Term{Op: 'c', Col: 2, Cell: "x"}},
		// Parts that the Op doesn't ask for are parts as well.
		{of('!', con(yes), col(0)), []int{2}, of('!', con(yes), col(2))},
		{of('k', col(0), of('!', col(0))), []int{2}, of('k', col(2), of('!', col(2)))},
		{of('x', col(0)), []int{2}, of('x', col(2))},
		{api.Term{Op: 'c', Col: 1, Kids: []api.Term{col(0)}}, []int{1, 0}, api.Term{Op: 'c', Col: 0, Kids: []api.Term{col(1)}}},
	} {
		if got, good := Shift(x.t, x.to); !good || !same(got, x.want) {
			t.Errorf("Shift of %s to %v: %s, %v, not %s", shown(x.t), x.to, shown(got), good, shown(x.want))
		}
	}
}

// P15.1: zero and false, if one c has no place in to, or one below 0, wherever it stands.
func TestShiftRefused(t *testing.T) {
	for _, x := range []struct {
		t  api.Term
		to []int
	}{
		{col(0), nil}, {col(0), []int{}}, {col(1), []int{3}}, {col(9), []int{3}}, {col(math.MaxInt), []int{3}},
		{col(-1), []int{3}}, {col(math.MinInt), []int{3}}, {col(-1), nil},
		{col(0), []int{-1}}, {col(0), []int{math.MinInt}}, {col(1), []int{3, -1}}, {col(1), []int{3, -7, 4}},
		{col(1), []int{0, 1}[:1]},
		{api.Term{Op: 'c', Col: 1, Cell: yes}, []int{3}},
	} {
		ok := of('=', con(yes), con(no))
		for _, whole := range []api.Term{
			x.t, of('!', x.t), of('&', x.t, ok), of('&', ok, x.t), of('|', of('<', ok, x.t), ok), of('|', ok, of('?', x.t)),
			of('!', ok, x.t), of('k', x.t), of('x', ok, ok, of('!', x.t)), of('=', x.t, x.t), of('!', of('!', of('!', x.t))),
		} {
			if got, good := Shift(whole, x.to); good || !zero(got) {
				t.Errorf("Shift of %s to %v: %s, %v", shown(whole), x.to, shown(got), good)
			}
		}
	}
	if got, good := Shift(api.Term{Op: 'c', Col: 0, Kids: []api.Term{col(1)}}, []int{0}); good || !zero(got) {
		t.Errorf("a part of a c has no place: %s, %v", shown(got), good)
	}
	if got, good := Shift(of('=', col(0), col(1)), []int{0, -1}); good || !zero(got) {
		t.Errorf("one of two has no place: %s, %v", shown(got), good)
	}
}

// columnsOf are the Cols of all parts that are a c.
func columnsOf(x api.Term) []int {
	var l []int
	if x.Op == 'c' {
		l = append(l, x.Col)
	}
	for _, k := range x.Kids {
		l = append(l, columnsOf(k)...)
	}
	return l
}

// P15.1: all short terms to all short places: refused just where a c has no place, and of a row it comes to what the term comes to of the row's cells at these places.
func TestShiftAllShort(t *testing.T) {
	var places [][]int
	for a := -1; a < 3; a++ {
		for b := -1; b < 3; b++ {
			places = append(places, []int{a, b}, []int{a, b, 1, 2})
		}
	}
	places = append(places, nil, []int{2})
	for _, x := range over(over([]api.Term{col(0), col(1), col(3), con(yes)})) {
		for _, to := range places {
			hasAll := !slices.ContainsFunc(columnsOf(x), func(c int) bool { return c >= len(to) || to[c] < 0 })
			got, good := Shift(x, to)
			if good != hasAll || !good && !zero(got) || good && Size(got) != Size(x) {
				t.Fatalf("Shift of %s to %v: %s, %v", shown(x), to, shown(got), good)
			}
			if good {
				isShifted(t, x, got, to)
			}
		}
	}
}

// isShifted asks that of rows the shifted term comes to what the term comes to of their cells at these places.
func isShifted(t *testing.T, x, shifted api.Term, to []int) {
	t.Helper()
	for _, row := range rows()[:3] {
		picked := make([]string, len(to))
		for i, c := range to {
			if c >= 0 && c < len(row) {
				picked[i] = row[c]
			}
		}
		if got, w := Eval(shifted, row), Eval(x, picked); got != w {
			t.Fatalf("%s to %v, of %q: %q, not %q", shown(x), to, row, got, w)
		}
	}
}

// P15.2: what is nothing is neither yes nor no: so of it !, = and < are nothing, and & and | are, but where the other side tells.
func TestThreeWays(t *testing.T) {
	for _, x := range over(over([]api.Term{col(0), col(1), con(nothing), con(yes), con(no)})) {
		for _, row := range rows() {
			c := Eval(x, row)
			if c != nothing {
				if Eval(of('?', x), row) != no {
					t.Fatalf("%s of %q is something, and nothing", shown(x), row)
				}
				continue
			}
			for _, y := range []struct {
				t    api.Term
				want string
			}{
				{of('?', x), yes}, {of('!', x), nothing}, {of('!', of('!', x)), nothing}, {of('&', x, of('!', x)), nothing}, {of('|', x, of('!', x)), nothing},
				{of('=', x, x), nothing}, {of('<', x, x), nothing}, {of('=', x, con(nothing)), nothing}, {of('=', con(no), x), nothing}, {of('=', x, con(yes)), nothing},
				{of('<', x, con(yes)), nothing}, {of('<', con(no), x), nothing},
				{of('&', x, con(yes)), nothing}, {of('&', con(yes), x), nothing}, {of('&', x, con(no)), no}, {of('&', con(no), x), no},
				{of('|', x, con(yes)), yes}, {of('|', con(yes), x), yes}, {of('|', x, con(no)), nothing}, {of('|', con(no), x), nothing},
				{of('&', x, x), nothing}, {of('|', x, x), nothing},
			} {
				if got := Eval(y.t, row); got != y.want {
					t.Fatalf("%s of %q: %q, not %q", shown(y.t), row, got, y.want)
				}
			}
		}
	}
}

// P15.2: a question and its other way round are never both yes, and not both no; what comes to neither is nothing.
func TestThreeWaysEach(t *testing.T) {
	for _, x := range over(over(leaves()[:6])) {
		if !slices.Contains([]byte{'=', '<', '&', '|', '!', '?'}, x.Op) {
			continue
		}
		for _, row := range rows() {
			c, other := Eval(x, row), Eval(of('!', x), row)
			if !(c == yes && other == no || c == no && other == yes || c == nothing && other == nothing) {
				t.Fatalf("%s of %q: %q, and the other way round %q", shown(x), row, c, other)
			}
		}
	}
}

// The chapter's example.
func TestNothingIsNotOne(t *testing.T) {
	if got := Eval(of('=', con(nothing), con(cell.Int(1))), nil); got != nothing {
		t.Errorf("nothing = 1: %q", got)
	}
	if got := Eval(of('=', col(0), con(cell.Int(1))), []string{nothing}); got != nothing {
		t.Errorf("nothing = 1, of a row: %q", got)
	}
}

// nestedIn is the leaf in so many ops one in another, as their first part, or as their second.
func nestedIn(op byte, leaf api.Term, many int, second bool) api.Term {
	x := leaf
	for range many {
		switch {
		case slices.Contains(ofOne, op):
			x = of(op, x)
		case second:
			x = of(op, con(yes), x)
		default:
			x = of(op, x, con(yes))
		}
	}
	return x
}

// Parts may be nested 65,536 deep, and each is looked at once.
func TestDeep(t *testing.T) {
	const many = 1<<16 - 1
	row := []string{no, yes}
	for _, op := range append(slices.Clone(ofOne), ofTwo...) {
		for _, second := range []bool{false, true} {
			x := nestedIn(op, col(0), many, second)
			size := 1 + 2*many
			if slices.Contains(ofOne, op) {
				size = 1 + many
			}
			// By turns yes and no, so often that yes is last, are ! and, of the first part, <.
			isYes := op == '!' || op == '|' || op == '<' && !second
			if got := Eval(x, row); got != cell.Bool(isYes) {
				t.Errorf("%q, second %v: %q", op, second, got)
			}
			if got := Size(x); got != size {
				t.Errorf("%q, second %v: Size %d, not %d", op, second, got, size)
			}
			moved, good := Shift(x, []int{1})
			if !good || Size(moved) != size || len(columnsOf(moved)) != 1 || columnsOf(moved)[0] != 1 {
				t.Errorf("%q, second %v: not shifted", op, second)
			}
			if got, bad := Shift(x, []int{-1}); bad || !zero(got) {
				t.Errorf("%q, second %v: shifted", op, second)
			}
		}
	}
}

// Whatever is given, all calls end, and change nothing.
func TestWhateverIsGiven(t *testing.T) {
	ends := []int{0, 1, -1, 2, math.MaxInt, math.MinInt}
	var l []api.Term
	for op := range 256 {
		for _, c := range ends {
			x := api.Term{Op: byte(op), Col: c, Cell: raw()[(op+c&15)%len(raw())]}
			l = append(l, x, of(byte(op), x), of(byte(op), x, x), of(byte(op), x, x, x), of('&', x, of(byte(op), x)))
		}
	}
	for _, x := range l {
		before := deep(x)
		for _, row := range append(rows(), nil, raw()) {
			if got, w := Eval(x, row), want(x, row); got != w {
				t.Fatalf("%s of %q: %q, not %q", shown(x), row, got, w)
			}
		}
		for _, to := range [][]int{nil, {}, {0}, {5, 4, 3}, ends, {math.MinInt}} {
			hasAll := !slices.ContainsFunc(columnsOf(x), func(c int) bool { return c < 0 || c >= len(to) || to[c] < 0 })
			if got, good := Shift(x, to); good != hasAll || !good && !zero(got) {
				t.Fatalf("Shift of %s to %v: %s, %v", shown(x), to, shown(got), good)
			}
		}
		if Size(x) != count(x) || !same(x, before) {
			t.Fatalf("%s: Size %d, or it is changed", shown(x), Size(x))
		}
	}
}

// spoil changes all that can be reached from a term, its spare room too.
func spoil(x api.Term) {
	all := x.Kids[:cap(x.Kids)]
	for i := range all {
		spoil(all[i])
		all[i] = api.Term{Op: 'k', Cell: "spoilt"}
	}
}

// roomy is the term with spare room behind each list of parts.
func roomy(x api.Term) api.Term {
	kids := make([]api.Term, 0, len(x.Kids)+1)
	for _, k := range x.Kids {
		kids = append(kids, roomy(k))
	}
	x.Kids = append(kids, con("spare"))[:len(kids)]
	return x
}

// spared tells whether a roomy term is still as it was, with its spare room.
func spared(x, was api.Term) bool {
	for i, k := range x.Kids {
		if i >= len(was.Kids) || !spared(k, was.Kids[i]) {
			return false
		}
	}
	return same(x, was) && same(x.Kids[:len(x.Kids)+1][len(x.Kids)], con("spare"))
}

// What is handed in stays as it was, its spare room too, and no answer hangs on it, nor on another answer.
func TestNothingIsChangedOrShared(t *testing.T) {
	row := []string{no, yes, cell.Int(3), "spare"}[:3]
	to := []int{2, 1, 0, 77}[:3]
	for _, was := range over(over([]api.Term{col(0), col(1), con(yes), {Op: 'c', Col: 2, Kids: []api.Term{col(1)}}})) {
		x := roomy(was)
		value := Eval(x, row)
		first, _ := Shift(x, to)
		second, good := Shift(x, to)
		wantShift := deep(second)
		spoil(first)
		if !good || !same(second, wantShift) || !spared(x, was) {
			t.Fatalf("%s: Shift's answer is shared", shown(was))
		}
		if got, bad := Shift(of('&', x, col(9)), to); bad || !zero(got) || !spared(x, was) {
			t.Fatalf("%s: a shift that is refused changes it", shown(was))
		}
		spoil(x)
		if !same(second, wantShift) {
			t.Fatalf("%s: Shift's answer hangs on what was handed in", shown(was))
		}
		if Size(was) != Size(second) || value != Eval(was, row) {
			t.Fatalf("%s: other answers", shown(was))
		}
	}
	if !slices.Equal(row[:4], []string{no, yes, cell.Int(3), "spare"}) || !slices.Equal(to[:4], []int{2, 1, 0, 77}) {
		t.Fatal("the row, or the places, are changed")
	}
}

// One list of parts that stands in a term twice is two in the answer.
func TestPartsThatAreShared(t *testing.T) {
	kids := []api.Term{col(0), col(1)}
	x := of('&', api.Term{Op: '=', Kids: kids}, api.Term{Op: '<', Kids: kids})
	got, good := Shift(x, []int{1, 0})
	if !good || Size(x) != 7 || !same(got, of('&', of('=', col(1), col(0)), of('<', col(1), col(0)))) {
		t.Fatalf("%s, %v", shown(got), good)
	}
	spoil(got.Kids[0])
	if !same(got.Kids[1], of('<', col(1), col(0))) || !same(x, of('&', of('=', col(0), col(1)), of('<', col(0), col(1)))) {
		t.Error("two lists of one answer share their parts")
	}
}

// Any number of goroutines may call at once, of one term too.
func TestAtOnce(t *testing.T) {
	x := of('|', of('&', of('=', col(0), con(yes)), of('!', of('?', col(1)))), of('<', col(1), con(cell.Int(3))))
	row, to := []string{yes, cell.Int(2)}, []int{1, 0}
	moved, _ := Shift(x, to)
	var all sync.WaitGroup
	for range 8 {
		all.Go(func() {
			for range 100 {
				got, good := Shift(x, to)
				lost, bad := Shift(x, to[:1])
				if Eval(x, row) != yes || Size(x) != 11 || !good || !same(got, moved) || bad || !zero(lost) {
					t.Error("calls at once aren't as one alone")
				}
			}
		})
	}
	all.Wait()
}
