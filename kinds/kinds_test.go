package kinds

import (
	"fmt"
	"math"
	"slices"
	"strings"
	"sync"
	"testing"

	"distiller/api"
	"distiller/cell"
	"distiller/shape"
	"distiller/term"
)

// yes and no are the two cells of KindBool.
const (
	yes     = "b\x01"
	no      = "b\x00"
	nothing = ""
)

// ops are all there are, ofTwo those of two parts, ofOne those of one, ofNone those of none.
var (
	ops    = []byte{'c', 'k', '=', '<', '&', '|', '!', '?'}
	ofTwo  = []byte{'=', '<', '&', '|'}
	ofOne  = []byte{'!', '?'}
	ofNone = []byte{'c', 'k'}
)

// The columns of most tests: one of each kind, one of them that may have nothing.
const (
	numCol  = 0
	boolCol = 1
	textCol = 2
)

func columns() []api.Col {
	return []api.Col{{Kind: api.KindInt}, {Kind: api.KindBool, Null: true}, {Kind: api.KindText}}
}

// col is a column.
func col(c int) api.Term { return api.Term{Op: 'c', Col: c} }

// con is a constant.
func con(c string) api.Term { return api.Term{Op: 'k', Cell: c} }

// of is the op of these parts.
func of(op byte, parts ...api.Term) api.Term { return api.Term{Op: op, Kids: parts} }

// Terms that the tests put together: one of each kind, and one of each error.
func num() api.Term     { return con(cell.Int(3)) }
func truth() api.Term   { return con(yes) }
func text() api.Term    { return con(cell.Text("a")) }
func none() api.Term    { return con(nothing) }
func badArg() api.Term  { return col(99) }
func badKind() api.Term { return of('!', num()) }

// deep is the term in memory of its own.
func deep(t api.Term) api.Term {
	var kids []api.Term
	for _, k := range t.Kids {
		kids = append(kids, deep(k))
	}
	t.Kids = kids
	return t
}

// same tells whether two terms are the same, part by part, field by field.
func same(a, b api.Term) bool {
	return a.Op == b.Op && a.Col == b.Col && a.Cell == b.Cell && slices.EqualFunc(a.Kids, b.Kids, same)
}

// shown is a term for an error's text, cut short.
func shown(t api.Term) string { return fmt.Sprintf("%.300s", write(t)) }

func write(t api.Term) string {
	s := fmt.Sprintf("%q", t.Op)
	switch t.Op {
	case 'c':
		s = fmt.Sprintf("c%d", t.Col)
	case 'k':
		s = fmt.Sprintf("%q", t.Cell)
	}
	var l []string
	for _, k := range t.Kids {
		l = append(l, write(k))
	}
	if len(l) == 0 {
		return s
	}
	return s + "(" + strings.Join(l, ", ") + ")"
}

// is asks Of for a kind and an error, and Where for what follows of them.
func is(t *testing.T, x api.Term, cols []api.Col, kind byte, err api.Errno) {
	t.Helper()
	if k, e := Of(x, cols); k != kind || e != err {
		t.Errorf("Of %s under %v: %d, %d, not %d, %d", shown(x), cols, k, e, kind, err)
	}
	where := err
	if err == api.OK && kind != api.KindBool && kind != api.KindNone {
		where = api.ErrKind
	}
	if e := Where(x, cols); e != where {
		t.Errorf("Where %s under %v: %d, not %d", shown(x), cols, e, where)
	}
}

// want is what Of tells by the chapter's words: all that is wrong is listed, in order, and the first one told.
func want(x api.Term, cols []api.Col) (byte, api.Errno) {
	if count(x) > 30 {
		return 0, api.ErrLarge
	}
	for _, f := range faults(x, cols) {
		return 0, f
	}
	return kindOf(x, cols), api.OK
}

// count counts parts one by one, by a list of those that are left.
func count(x api.Term) int {
	left := []api.Term{x}
	many := 0
	for len(left) > 0 {
		last := left[len(left)-1]
		left = append(left[:len(left)-1], last.Kids...)
		many++
	}
	return many
}

// kindOf is a term's kind by its Op alone, whatever is wrong with its parts.
func kindOf(x api.Term, cols []api.Col) byte {
	switch x.Op {
	case 'c':
		for i, c := range cols {
			if i == x.Col {
				return c.Kind
			}
		}
		return 0
	case 'k':
		return (x.Cell + "\x00")[0]
	}
	return 'b'
}

// faults are all errors of a term, in the order of the chapter: how many parts, each one's own, and what it is.
func faults(x api.Term, cols []api.Col) []api.Errno {
	var l []api.Errno
	parts := map[byte]int{'c': 1, 'k': 1, '!': 2, '?': 2, '=': 3, '<': 3, '&': 3, '|': 3}
	if parts[x.Op] != len(x.Kids)+1 {
		l = append(l, api.ErrArg)
	}
	var kinds []byte
	for _, k := range x.Kids {
		l = append(l, faults(k, cols)...)
		kinds = append(kinds, kindOf(k, cols))
	}
	some := slices.DeleteFunc(kinds, func(k byte) bool { return k == 0 })
	switch {
	case x.Op == 'c' && (x.Col < 0 || x.Col >= len(cols)):
		l = append(l, api.ErrArg)
	case x.Op == 'k' && !isCell(x.Cell):
		l = append(l, api.ErrArg)
	case (x.Op == '=' || x.Op == '<') && len(slices.Compact(some)) > 1:
		l = append(l, api.ErrKind)
	case (x.Op == '&' || x.Op == '|' || x.Op == '!') && slices.ContainsFunc(some, func(k byte) bool { return k != 'b' }):
		l = append(l, api.ErrKind)
	}
	return l
}

// isCell tells by the form of all cells whether a text is one.
func isCell(c string) bool {
	return c == nothing || c == yes || c == no || strings.HasPrefix(c, "i") && len(c) == 9 || strings.HasPrefix(c, "t") && len(c) <= 17
}

// leaves are columns and constants, one of each kind and nothing, a column that isn't there, and a constant that may not be.
func leaves() []api.Term {
	return []api.Term{col(numCol), col(boolCol), con(nothing), con(yes), con(cell.Text("b\x01")), col(3), con("b")}
}

// over are these, and each op of them.
func over(l []api.Term) []api.Term {
	all := slices.Clone(l)
	for _, a := range l {
		for _, op := range ofOne {
			all = append(all, of(op, a))
		}
		for _, b := range l {
			for _, op := range ofTwo {
				all = append(all, of(op, a, b))
			}
		}
	}
	return all
}

// raw are texts that are cells and such as aren't.
func raw() []string {
	return []string{
		nothing, no, yes, cell.Int(math.MinInt), cell.Int(-1), cell.Int(0), cell.Int(math.MaxInt), cell.Text(""), cell.Text("a"), cell.Text("\xff"),
		cell.Text(strings.Repeat("x", 16)), cell.Text(strings.Repeat("x", 17)), cell.Text(strings.Repeat("\x00", 16)), strings.Repeat("t", 40),
		"\x00", "\x00b", "\x00\x00", "a", "b", "b\x00\x00", "b\x01\x00", "b\x02", "b\xff", "c", "i", "i1234567", "i12345678", "i123456789", "\xff", "B\x01", "I12345678", "T",
	}
}

// P16.1: of c the column's kind, at each place, whether it may have nothing or not; its Cell doesn't count.
func TestOfColumn(t *testing.T) {
	cols := []api.Col{{Kind: 'i'}, {Kind: 'b'}, {Kind: 't'}, {Kind: 'i', Null: true}, {Kind: 'b', Null: true}, {Kind: 't', Null: true}}
	for i, c := range cols {
		is(t, col(i), cols, c.Kind, api.OK)
		is(t, api.Term{Op: 'c', Col: i, Cell: "x"}, cols, c.Kind, api.OK)
		is(t, col(i), cols[:i+1], c.Kind, api.OK)
		// ErrArg: a c without a column; one of the list's spare room is none.
		is(t, col(i), cols[:i], 0, api.ErrArg)
	}
	for _, c := range []int{-1, -2, 6, 7, math.MaxInt, math.MinInt, 1 << 32, -1 << 32, 256, math.MinInt32} {
		is(t, col(c), cols, 0, api.ErrArg)
	}
	is(t, col(0), nil, 0, api.ErrArg)
	is(t, col(0), []api.Col{}, 0, api.ErrArg)
}

// P16.1: columns may be any: a c has its column's kind, whatever that is, and 0 is that of nothing.
func TestOfAnyColumn(t *testing.T) {
	for k := range 256 {
		cols := []api.Col{{Kind: byte(k)}, {Kind: byte(k + 1)}, {Kind: 0}}
		is(t, col(0), cols, byte(k), api.OK)
		is(t, of('=', col(0), col(0)), cols, 'b', api.OK)
		is(t, of('<', col(0), col(2)), cols, 'b', api.OK)
		is(t, of('?', col(0)), cols, 'b', api.OK)
		two, other := api.ErrKind, api.ErrKind
		if k == 0 || k == 255 {
			two = api.OK
		}
		if k == 0 || k == 'b' {
			other = api.OK
		}
		for _, x := range []struct {
			t   api.Term
			err api.Errno
		}{{of('<', col(0), col(1)), two}, {of('=', col(1), col(0)), two}, {of('!', col(0)), other}, {of('&', col(0), truth()), other}, {of('|', col(2), col(0)), other}} {
			kind := byte('b')
			if x.err != api.OK {
				kind = 0
			}
			is(t, x.t, cols, kind, x.err)
		}
	}
	many := make([]api.Col, 1000)
	many[999].Kind = 't'
	is(t, col(999), many, 't', api.OK)
	is(t, col(998), many, 0, api.OK)
	is(t, col(1000), many, 0, api.ErrArg)
}

// P16.1: of k its Cell's kind, KindNone of nothing; ErrArg, if the Cell may not be; its Col doesn't count.
func TestOfConstant(t *testing.T) {
	for _, x := range []struct {
		c    string
		kind byte
		err  api.Errno
	}{
		{nothing, 0, api.OK}, {yes, 'b', api.OK}, {no, 'b', api.OK}, {cell.Int(0), 'i', api.OK}, {cell.Int(math.MinInt), 'i', api.OK},
		{"t", 't', api.OK}, {"t" + strings.Repeat("x", 16), 't', api.OK}, {"t" + strings.Repeat("x", 17), 0, api.ErrArg},
		{"\x00", 0, api.ErrArg}, {"\x00b", 0, api.ErrArg}, {"b", 0, api.ErrArg}, {"b\x02", 0, api.ErrArg}, {"b\x01\x00", 0, api.ErrArg},
		{"i", 0, api.ErrArg}, {"i1234567", 0, api.ErrArg}, {"i123456789", 0, api.ErrArg}, {"x", 0, api.ErrArg}, {"k", 0, api.ErrArg}, {"\xff", 0, api.ErrArg},
	} {
		is(t, con(x.c), columns(), x.kind, x.err)
		is(t, con(x.c), nil, x.kind, x.err)
		is(t, api.Term{Op: 'k', Cell: x.c, Col: -7}, columns(), x.kind, x.err)
	}
	for _, c := range raw() {
		kind, err := want(con(c), nil)
		is(t, con(c), nil, kind, err)
	}
	for b := range 256 {
		kind, err := want(con(string([]byte{byte(b)})), nil)
		is(t, con(string([]byte{byte(b)})), nil, kind, err)
	}
}

// P16.1: = and < of one kind, or of nothing on a side, are of KindBool; of two kinds, none of them nothing, ErrKind.
func TestOfSameAndLess(t *testing.T) {
	for _, op := range []byte{'=', '<'} {
		for i, a := range []api.Term{num(), truth(), text()} {
			for j, b := range []api.Term{num(), truth(), text()} {
				for _, l := range [][]api.Term{{a, b}, {col(i), b}, {a, col(j)}, {col(i), col(j)}} {
					if i == j {
						is(t, of(op, l...), columns(), 'b', api.OK)
					} else {
						is(t, of(op, l...), columns(), 0, api.ErrKind)
					}
				}
			}
			is(t, of(op, a, none()), columns(), 'b', api.OK)
			is(t, of(op, none(), a), columns(), 'b', api.OK)
			is(t, of(op, col(i), none()), columns(), 'b', api.OK)
		}
		is(t, of(op, none(), none()), columns(), 'b', api.OK)
		// What = and < come to is yes or no: so they stand beside that, not beside what they are of.
		less := of('<', num(), col(numCol))
		is(t, of(op, less, truth()), columns(), 'b', api.OK)
		is(t, of(op, col(boolCol), less), columns(), 'b', api.OK)
		is(t, of(op, less, less), columns(), 'b', api.OK)
		is(t, of(op, less, num()), columns(), 0, api.ErrKind)
		is(t, of(op, text(), less), columns(), 0, api.ErrKind)
	}
}

// P16.1: &, | and ! of KindBool, or nothing, are of KindBool, also where all is nothing; of another kind, on either side, ErrKind.
func TestOfBothOneOfOther(t *testing.T) {
	may := []api.Term{truth(), con(no), none(), col(boolCol), of('=', num(), num()), of('?', text()), of('!', none()), of('&', none(), none())}
	mayNot := []api.Term{num(), text(), col(numCol), col(textCol), con(cell.Int(0)), con(cell.Text(""))}
	for _, a := range may {
		is(t, of('!', a), columns(), 'b', api.OK)
		for _, op := range []byte{'&', '|'} {
			for _, b := range may {
				is(t, of(op, a, b), columns(), 'b', api.OK)
			}
			for _, b := range mayNot {
				is(t, of(op, a, b), columns(), 0, api.ErrKind)
				is(t, of(op, b, a), columns(), 0, api.ErrKind)
			}
		}
	}
	for _, a := range mayNot {
		is(t, of('!', a), columns(), 0, api.ErrKind)
		is(t, of('&', a, a), columns(), 0, api.ErrKind)
		is(t, of('|', a, a), columns(), 0, api.ErrKind)
	}
}

// P16.1: ? is of KindBool, of whatever kind its part is.
func TestOfNothing(t *testing.T) {
	for _, a := range []api.Term{num(), truth(), text(), none(), col(numCol), col(boolCol), col(textCol), of('?', num()), of('<', none(), text())} {
		is(t, of('?', a), columns(), 'b', api.OK)
		is(t, of('!', of('?', a)), columns(), 'b', api.OK)
		is(t, of('=', of('?', a), num()), columns(), 0, api.ErrKind)
	}
	is(t, of('?', badKind()), columns(), 0, api.ErrKind)
	is(t, of('?', badArg()), columns(), 0, api.ErrArg)
}

// P16.1: ErrArg of another number of parts than the Op must have, none of c and k, whatever these parts are.
func TestOfHowMany(t *testing.T) {
	for _, op := range ops {
		must := 0
		switch {
		case slices.Contains(ofTwo, op):
			must = 2
		case slices.Contains(ofOne, op):
			must = 1
		}
		for many := range 30 {
			for _, part := range []api.Term{truth(), none(), num(), badKind(), badArg(), of('x')} {
				if many == must {
					continue
				}
				parts := make([]api.Term, 0, many)
				for range many {
					parts = append(parts, part)
				}
				x := api.Term{Op: op, Col: boolCol, Cell: yes, Kids: parts}
				kind, err := byte(0), api.ErrArg
				if count(x) > 30 {
					err = api.ErrLarge
				}
				is(t, x, columns(), kind, err)
			}
		}
	}
	// A part isn't there, even where the list has spare room.
	room := []api.Term{truth(), truth()}
	is(t, of('&', room[:1]...), columns(), 0, api.ErrArg)
	is(t, of('!', room[:1]...), columns(), 'b', api.OK)
	is(t, api.Term{Op: '!', Kids: room[:0]}, columns(), 0, api.ErrArg)
	is(t, api.Term{Op: 'k', Cell: yes, Kids: room[:0]}, columns(), 'b', api.OK)
}

// P16.1: ErrArg of each Op that there isn't, with any parts, and wherever it stands.
func TestOfNoSuchOp(t *testing.T) {
	for op := range 256 {
		b := byte(op)
		if slices.Contains(ops, b) {
			continue
		}
		for _, parts := range [][]api.Term{nil, {truth()}, {truth(), truth()}, {truth(), truth(), truth()}, {badKind()}, {badKind(), badKind()}} {
			x := api.Term{Op: b, Col: boolCol, Cell: yes, Kids: parts}
			is(t, x, columns(), 0, api.ErrArg)
			is(t, of('!', x), columns(), 0, api.ErrArg)
			is(t, of('&', truth(), x), columns(), 0, api.ErrArg)
			is(t, of('?', x), columns(), 0, api.ErrArg)
		}
	}
	is(t, api.Term{}, columns(), 0, api.ErrArg)
}

// P16.1: which error is the first: how many parts there are, then the first part's own, then the second one's, then the term's.
func TestOfFirst(t *testing.T) {
	for _, x := range []struct {
		t   api.Term
		err api.Errno
	}{
		// Each one's own parts are ahead of it: its kind comes last.
		{of('&', num(), badArg()), api.ErrArg},
		{of('&', badArg(), num()), api.ErrArg},
		{of('<', num(), of('=', truth(), con("x"))), api.ErrArg},
		{of('!', of('<', num(), badArg())), api.ErrArg},
		{of('=', of('&', num(), num()), badArg()), api.ErrKind},
		// Of two the first one's error is told, whichever it is.
		{of('&', badArg(), badKind()), api.ErrArg},
		{of('&', badKind(), badArg()), api.ErrKind},
		{of('|', badKind(), con("x")), api.ErrKind},
		{of('<', con("x"), badKind()), api.ErrArg},
		{of('=', badKind(), of('!')), api.ErrKind},
		{of('=', of('!'), badKind()), api.ErrArg},
		{of('=', badKind(), of('x')), api.ErrKind},
		{of('&', of('?', badKind()), of('?', badArg())), api.ErrKind},
		{of('&', of('?', badArg()), of('?', badKind())), api.ErrArg},
		// How many there are is ahead of these.
		{of('!', badKind(), truth()), api.ErrArg},
		{of('?', badKind(), badKind()), api.ErrArg},
		{of('&', badKind()), api.ErrArg},
		{of('<', badKind(), badKind(), badKind()), api.ErrArg},
		{of('c', badKind()), api.ErrArg},
		{of('k', badKind()), api.ErrArg},
		{of('x', badKind()), api.ErrArg},
		// But not ahead of what comes ahead of the term itself.
		{of('&', badKind(), of('&', badKind())), api.ErrKind},
		{of('&', of('!', badKind()), of('c', badKind())), api.ErrKind},
		{of('&', of('&', badKind()), badKind()), api.ErrArg},
		{of('!', of('!', of('!', num()))), api.ErrKind},
	} {
		is(t, x.t, columns(), 0, x.err)
	}
}

// chain is a term of so many parts: ! of ! and so on of yes.
func chain(many int) api.Term {
	x := truth()
	for range many - 1 {
		x = of('!', x)
	}
	return x
}

// bush is a term of so many parts, & of & and so on on the first side, all others yes; many is odd.
func bush(many int, second bool) api.Term {
	x := truth()
	for range many / 2 {
		if second {
			x = of('&', truth(), x)
		} else {
			x = of('&', x, truth())
		}
	}
	return x
}

// P16.1: ErrLarge of more than 30 parts, however they stand, ahead of all that is wrong besides.
func TestOfLarge(t *testing.T) {
	is(t, chain(30), columns(), 'b', api.OK)
	is(t, chain(31), columns(), 0, api.ErrLarge)
	is(t, chain(32), columns(), 0, api.ErrLarge)
	for _, second := range []bool{false, true} {
		is(t, bush(29, second), columns(), 'b', api.OK)
		is(t, of('!', bush(29, second)), columns(), 'b', api.OK)
		is(t, bush(31, second), columns(), 0, api.ErrLarge)
	}
	is(t, of('&', chain(14), chain(15)), columns(), 'b', api.OK)
	is(t, of('&', chain(15), chain(14)), columns(), 'b', api.OK)
	is(t, of('&', chain(15), chain(15)), columns(), 0, api.ErrLarge)
	is(t, of('|', chain(1), chain(28)), columns(), 'b', api.OK)
	is(t, of('|', chain(1), chain(29)), columns(), 0, api.ErrLarge)
	// Ahead of each other error, wherever that stands; with one part fewer it is told.
	for _, bad := range []api.Term{badArg(), con("x"), of('!'), of('x')} {
		is(t, of('&', bad, chain(28)), columns(), 0, api.ErrArg)
		is(t, of('&', bad, chain(29)), columns(), 0, api.ErrLarge)
		is(t, of('&', chain(28), bad), columns(), 0, api.ErrArg)
		is(t, of('&', chain(29), bad), columns(), 0, api.ErrLarge)
	}
	is(t, of('&', badKind(), chain(27)), columns(), 0, api.ErrKind)
	is(t, of('&', badKind(), chain(28)), columns(), 0, api.ErrLarge)
	is(t, of('&', num(), chain(28)), columns(), 0, api.ErrKind)
	is(t, of('&', num(), chain(29)), columns(), 0, api.ErrLarge)
	// Parts that the Op doesn't ask for are parts as well.
	for _, op := range append(slices.Clone(ops), 'x', 0) {
		for _, many := range []int{29, 30, 31, 1000} {
			err := api.ErrLarge
			if many == 29 {
				err = api.ErrArg
			}
			is(t, of(op, make([]api.Term, many)...), columns(), 0, err)
		}
	}
	is(t, of('k', chain(29)), columns(), 0, api.ErrArg)
	is(t, of('k', chain(30)), columns(), 0, api.ErrLarge)
	is(t, of('!', truth(), chain(28)), columns(), 0, api.ErrArg)
	is(t, of('!', truth(), chain(29)), columns(), 0, api.ErrLarge)
}

// P16.1: all terms of up to three ops one in another against the chapter's words, under columns, and under none.
func TestOfAllShort(t *testing.T) {
	for _, cols := range [][]api.Col{columns(), nil, {{Kind: 'b'}}} {
		for _, x := range over(over(leaves())) {
			kind, err := want(x, cols)
			if k, e := Of(x, cols); k != kind || e != err {
				t.Fatalf("Of %s: %d, %d, not %d, %d", shown(x), k, e, kind, err)
			}
		}
	}
}

// P16.1: terms of any ops, with any number of parts, against the chapter's words.
func TestOfAnyForm(t *testing.T) {
	low := []api.Term{truth(), num(), none(), badArg()}
	lists := [][]api.Term{nil}
	for _, a := range low {
		lists = append(lists, []api.Term{a})
		for _, b := range low {
			lists = append(lists, []api.Term{a, b}, []api.Term{b, a, a})
		}
	}
	var middle []api.Term
	for _, op := range append(slices.Clone(ops), 'x') {
		for _, l := range lists {
			middle = append(middle, api.Term{Op: op, Col: textCol, Cell: no, Kids: l})
		}
	}
	for _, op := range append(slices.Clone(ops), 0) {
		for _, a := range middle {
			for i := 0; i < len(middle); i += 7 {
				for _, x := range []api.Term{of(op, a, middle[i]), of(op, a), of(op, a, a, middle[i])} {
					kind, err := want(x, columns())
					if k, e := Of(x, columns()); k != kind || e != err {
						t.Fatalf("Of %s: %d, %d, not %d, %d", shown(x), k, e, kind, err)
					}
				}
			}
		}
	}
}

// P16.1: Where tells Of's error; else ErrKind, unless the term is of KindBool, or nothing.
func TestWhere(t *testing.T) {
	for _, x := range []struct {
		t   api.Term
		err api.Errno
	}{
		{truth(), api.OK}, {con(no), api.OK}, {none(), api.OK}, {col(boolCol), api.OK}, {of('=', num(), col(numCol)), api.OK},
		{of('?', text()), api.OK}, {of('!', none()), api.OK}, {of('&', truth(), col(boolCol)), api.OK}, {of('|', none(), truth()), api.OK},
		{num(), api.ErrKind}, {text(), api.ErrKind}, {col(numCol), api.ErrKind}, {col(textCol), api.ErrKind}, {con("i12345678"), api.ErrKind},
		{badArg(), api.ErrArg}, {con("b"), api.ErrArg}, {con("\x00"), api.ErrArg}, {of('&'), api.ErrArg}, {api.Term{}, api.ErrArg},
		{of('<', num(), truth()), api.ErrKind}, {badKind(), api.ErrKind},
		{chain(30), api.OK}, {chain(31), api.ErrLarge},
	} {
		if e := Where(x.t, columns()); e != x.err {
			t.Errorf("Where %s: %d, not %d", shown(x.t), e, x.err)
		}
	}
	for k := range 256 {
		err := api.ErrKind
		if k == 0 || k == 'b' {
			err = api.OK
		}
		if e := Where(col(0), []api.Col{{Kind: byte(k)}}); e != err {
			t.Errorf("Where of a column of kind %d: %d, not %d", k, e, err)
		}
	}
	for _, x := range over(over(leaves())) {
		kind, err := want(x, columns())
		if err == api.OK && kind != 'b' && kind != 0 {
			err = api.ErrKind
		}
		if e := Where(x, columns()); e != err {
			t.Fatalf("Where %s: %d, not %d", shown(x), e, err)
		}
	}
}

// rows are all that may stand under the columns, of two cells, or three, each.
func rows() [][]string {
	var l [][]string
	for _, n := range []string{cell.Int(math.MinInt), cell.Int(1), cell.Int(2)} {
		for _, b := range []string{nothing, yes, no} {
			for _, s := range []string{cell.Text(""), cell.Text("b\x01")} {
				l = append(l, []string{n, b, s})
			}
		}
	}
	return l
}

// P16.2: of a row under columns a term comes to a cell of its kind, or to nothing; of Where's terms to yes, no, or nothing.
func TestItHolds(t *testing.T) {
	for _, row := range rows() {
		if shape.Row(columns(), row) != api.OK {
			t.Fatalf("%q doesn't stand under the columns", row)
		}
	}
	right := 0
	for _, x := range over(over(leaves())) {
		kind, err := Of(x, columns())
		if err != api.OK {
			continue
		}
		right++
		where := Where(x, columns())
		for _, row := range rows() {
			c := term.Eval(x, row)
			if c != nothing && (!cell.Right(c) || cell.Kind(c) != kind) {
				t.Fatalf("%s of %q: %q, but it is of kind %d", shown(x), row, c, kind)
			}
			if where == api.OK && c != nothing && c != yes && c != no {
				t.Fatalf("%s of %q: %q, neither yes, no, nor nothing", shown(x), row, c)
			}
		}
	}
	if right < 1000 {
		t.Errorf("just %d terms are right", right)
	}
}

// P16.2: a term of each kind does come to that: no kind is told of what can be another.
func TestItHoldsEach(t *testing.T) {
	for _, x := range []struct {
		t    api.Term
		kind byte
	}{
		{col(numCol), 'i'}, {col(boolCol), 'b'}, {col(textCol), 't'}, {num(), 'i'}, {text(), 't'}, {of('<', col(numCol), num()), 'b'},
		{of('?', col(boolCol)), 'b'}, {of('|', col(boolCol), of('!', of('=', col(textCol), text()))), 'b'},
	} {
		kind, err := Of(x.t, columns())
		if err != api.OK || kind != x.kind {
			t.Errorf("Of %s: %d, %d", shown(x.t), kind, err)
		}
		if c := term.Eval(x.t, []string{cell.Int(2), yes, cell.Text("b")}); cell.Kind(c) != x.kind {
			t.Errorf("%s comes to %q", shown(x.t), c)
		}
	}
	if kind, err := Of(none(), columns()); kind != api.KindNone || err != api.OK || term.Eval(none(), rows()[0]) != nothing {
		t.Error("nothing isn't nothing")
	}
}

// The chapter's example.
func TestOneLessThanYes(t *testing.T) {
	is(t, of('<', con(cell.Int(1)), truth()), nil, 0, api.ErrKind)
}

// Parts may be nested 65,536 deep: there are too many, and the call ends.
func TestDeep(t *testing.T) {
	for _, op := range append(slices.Clone(ops), 'x') {
		for _, second := range []bool{false, true} {
			x := badArg()
			for range 1<<16 - 1 {
				if second {
					x = of(op, truth(), x)
				} else {
					x = of(op, x)
				}
			}
			is(t, x, columns(), 0, api.ErrLarge)
		}
	}
}

// Whatever is given, both calls end, and change nothing.
func TestWhateverIsGiven(t *testing.T) {
	ends := []int{0, 1, -1, 2, math.MaxInt, math.MinInt}
	lists := [][]api.Col{nil, {}, columns(), {{}}, {{Kind: 0xff}, {Kind: 'x', Null: true}, {Kind: 'k'}}, make([]api.Col, 300)}
	for op := range 256 {
		for i, c := range ends {
			x := api.Term{Op: byte(op), Col: c, Cell: raw()[(op+7*i)%len(raw())]}
			for _, y := range []api.Term{x, of(byte(op), x), of(byte(op), x, x), of(byte(op), x, x, x), of('&', x, of(byte(op), x)), of('?', x)} {
				before := deep(y)
				for _, cols := range lists {
					was := slices.Clone(cols)
					kind, err := want(y, cols)
					is(t, y, cols, kind, err)
					if !same(y, before) || !slices.Equal(cols, was) {
						t.Fatalf("%s, or the columns, are changed", shown(before))
					}
				}
			}
		}
	}
}

// roomy is the term with spare room behind each list of parts.
func roomy(x api.Term) api.Term {
	kids := make([]api.Term, 0, len(x.Kids)+1)
	for _, k := range x.Kids {
		kids = append(kids, roomy(k))
	}
	x.Kids = append(kids, con("spare"))[:len(kids)]
	return x
}

// spared tells whether a roomy term is still as it was, with its spare room.
func spared(x, was api.Term) bool {
	for i, k := range x.Kids {
		if i >= len(was.Kids) || !spared(k, was.Kids[i]) {
			return false
		}
	}
	return same(x, was) && same(x.Kids[:len(x.Kids)+1][len(x.Kids)], con("spare"))
}

// What is handed in stays as it was, its spare room too, of terms that are refused as well.
func TestNothingIsChanged(t *testing.T) {
	cols := append(columns(), api.Col{Kind: 'x', Null: true})[:3]
	for _, was := range over(over(leaves()[:6])) {
		x := roomy(was)
		kind, err := Of(x, cols)
		where := Where(x, cols)
		if !spared(x, was) {
			t.Fatalf("%s is changed", shown(was))
		}
		if k, e := Of(was, columns()); k != kind || e != err || Where(was, columns()) != where {
			t.Fatalf("%s: other answers where there is spare room", shown(was))
		}
	}
	if !slices.Equal(cols[:4], append(columns(), api.Col{Kind: 'x', Null: true})) {
		t.Fatal("the columns are changed")
	}
}

// A c and a k have no parts; ops of one part, and of two, none but these.
func TestOpsAreThese(t *testing.T) {
	if len(ofNone)+len(ofOne)+len(ofTwo) != len(ops) {
		t.Fatal("an op has no number of parts")
	}
	for many, list := range [][]byte{ofNone, ofOne, ofTwo} {
		for _, op := range list {
			x := api.Term{Op: op, Col: boolCol, Cell: yes}
			for range many {
				x.Kids = append(x.Kids, truth())
			}
			is(t, x, columns(), 'b', api.OK)
		}
	}
}

// Any number of goroutines may call at once, of one term too.
func TestAtOnce(t *testing.T) {
	x := of('|', of('&', of('=', col(boolCol), truth()), of('!', of('?', col(textCol)))), of('<', col(numCol), num()))
	bad, cols := of('&', x, badKind()), columns()
	var all sync.WaitGroup
	for range 8 {
		all.Go(func() {
			for range 100 {
				kind, err := Of(x, cols)
				none, refused := Of(bad, cols)
				if kind != 'b' || err != api.OK || none != 0 || refused != api.ErrKind || Where(x, cols) != api.OK || Where(bad, cols) != api.ErrKind {
					t.Error("calls at once aren't as one alone")
				}
			}
		})
	}
	all.Wait()
}
