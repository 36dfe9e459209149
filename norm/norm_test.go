package norm

import (
	"encoding/binary"
	"fmt"
	"math"
	"slices"
	"sort"
	"strings"
	"sync"
	"testing"

	"distiller/api"
	"distiller/cell"
	"distiller/term"
)

const (
	yes     = "b\x01"
	no      = "b\x00"
	nothing = ""
)

// ops are all there are, some of them of two parts, and some of one.
var (
	ops        = []byte{'c', 'k', '=', '<', '&', '|', '!', '?'}
	ofTwoParts = []byte{'=', '<', '&', '|'}
	ofOnePart  = []byte{'!', '?'}
)

// col is a column.
func col(c int) api.Term { return api.Term{Op: 'c', Col: c} }

// con is a constant.
func con(c string) api.Term { return api.Term{Op: 'k', Cell: c} }

// of is the op of these parts.
func of(op byte, parts ...api.Term) api.Term { return api.Term{Op: op, Kids: parts} }

// deep is the term in memory of its own.
func deep(t api.Term) api.Term {
	var kids []api.Term
	for _, k := range t.Kids {
		kids = append(kids, deep(k))
	}
	t.Kids = kids
	return t
}

// same tells whether two terms are the same, part by part, field by field.
func same(a, b api.Term) bool {
	return a.Op == b.Op && a.Col == b.Col && a.Cell == b.Cell && slices.EqualFunc(a.Kids, b.Kids, same)
}

// shown is a term for an error's text, cut short.
func shown(l ...api.Term) string {
	var s []string
	for _, t := range l {
		s = append(s, write(t))
	}
	return fmt.Sprintf("%.300s", strings.Join(s, "; "))
}

func write(t api.Term) string {
	s := fmt.Sprintf("%q%d%q", t.Op, t.Col, t.Cell)
	switch {
	case t.Op == 'c' && t.Cell == "":
		s = fmt.Sprintf("c%d", t.Col)
	case t.Op == 'k' && t.Col == 0:
		s = fmt.Sprintf("%q", t.Cell)
	case t.Col == 0 && t.Cell == "":
		s = fmt.Sprintf("%q", t.Op)
	}
	var l []string
	for _, k := range t.Kids {
		l = append(l, write(k))
	}
	if len(l) == 0 {
		return s
	}
	return s + "(" + strings.Join(l, ", ") + ")"
}

// leaves are columns, one that no row has too, and constants of each kind.
func leaves() []api.Term {
	return []api.Term{col(0), col(1), col(-1), con(nothing), con(yes), con(no), con(cell.Int(1)), con(cell.Text("a"))}
}

// over are these, and each op of them.
func over(l []api.Term) []api.Term {
	all := slices.Clone(l)
	for _, a := range l {
		for _, op := range ofOnePart {
			all = append(all, of(op, a))
		}
		for _, b := range l {
			for _, op := range ofTwoParts {
				all = append(all, of(op, a, b))
			}
		}
	}
	return all
}

// raw are such terms as no condition has: parts that their Op doesn't ask for, none that it asks for, no such Op, fields without a meaning.
func raw() []api.Term {
	a, b, c := col(1), con(no), of('?', con(nothing))
	l := []api.Term{
		{}, {Op: 'x'}, {Op: 0xff, Col: 3, Cell: yes, Kids: []api.Term{a, b}}, {Op: 'c', Col: 1, Cell: yes}, {Op: 'k', Col: 7, Cell: yes},
		{Op: 'k', Cell: yes, Kids: []api.Term{a}}, {Op: 'c', Kids: []api.Term{b, a, c}}, {Op: '=', Col: 2, Cell: "i", Kids: []api.Term{b, a}},
		{Op: '&', Col: 2, Cell: no, Kids: []api.Term{b, a}}, con("\x00"), con("b"), con(strings.Repeat("t", 200)), col(math.MinInt), col(math.MaxInt),
	}
	for _, op := range ops {
		for _, parts := range [][]api.Term{nil, {}, {c}, {c, b}, {b, c, a}, {a, b, c, a}} {
			l = append(l, api.Term{Op: op, Cell: nothing, Kids: parts})
		}
	}
	return l
}

// rows are such as have each kind of cell, and one without any.
func rows() [][]string {
	return [][]string{{yes, no}, {no, yes}, {yes, yes}, {nothing, yes}, {cell.Int(1), cell.Int(2)}, {cell.Text("a"), nothing}, {yes}, {}}
}

// want is a term's Print by the chapter's words, put together text by text, and packed by the library's own means.
func want(t api.Term) string {
	var field []byte
	if t.Op == 'c' {
		// The library folds numbers as layer 2 does.
		field = binary.AppendVarint(nil, int64(t.Col))
	}
	if t.Op == 'k' {
		field = append(binary.AppendUvarint(nil, uint64(len(t.Cell))), t.Cell...)
	}
	var parts []string
	for _, k := range t.Kids {
		parts = append(parts, want(k))
	}
	many := binary.AppendUvarint(nil, uint64(len(parts)))
	if t.Op == '=' && len(parts) == 2 {
		sort.Strings(parts)
	}
	return string([]byte{t.Op}) + string(field) + string(many) + strings.Join(parts, "")
}

// wantParts are a condition's parts by the chapter's words: all that it asks, in the order of their places; each Print once, by the first one that has it.
func wantParts(t api.Term) []api.Term {
	first := map[string]api.Term{}
	var prints []string
	left := []api.Term{t}
	for len(left) > 0 {
		x := left[0]
		left = left[1:]
		if x.Op == '&' && len(x.Kids) == 2 {
			left = append([]api.Term{x.Kids[0], x.Kids[1]}, left...)
			continue
		}
		p := want(x)
		if _, there := first[p]; there || p == "k\x02b\x01\x00" {
			continue
		}
		first[p] = x
		prints = append(prints, p)
	}
	sort.Strings(prints)
	var l []api.Term
	for _, p := range prints {
		l = append(l, first[p])
	}
	return l
}

// printsAs asks Print of a term.
func printsAs(t *testing.T, x api.Term, p string) {
	t.Helper()
	if got := Print(x); got != p {
		t.Errorf("Print of %s: %.100x, not %.100x", shown(x), got, p)
	}
}

// hasParts asks Parts of a term.
func hasParts(t *testing.T, x api.Term, parts ...api.Term) {
	t.Helper()
	if got := Parts(x); !slices.EqualFunc(got, parts, same) {
		t.Errorf("Parts of %s: %s, not %s", shown(x), shown(got...), shown(parts...))
	}
}

// joinsTo asks Join of terms.
func joinsTo(t *testing.T, l []api.Term, x api.Term) {
	t.Helper()
	if got := Join(l); !same(got, x) {
		t.Errorf("Join of %s: %s, not %s", shown(l...), shown(got), shown(x))
	}
}

// P17.1: bytes written out.
func TestPrintWritten(t *testing.T) {
	five := "i\x80\x00\x00\x00\x00\x00\x00\x05"
	for _, x := range []struct {
		t api.Term
		p string
	}{
		{col(0), "c\x00\x00"},
		{col(1), "c\x02\x00"},
		{col(-1), "c\x01\x00"},
		{col(63), "c\x7e\x00"},
		{col(64), "c\x80\x01\x00"},
		{col(-64), "c\x7f\x00"},
		{col(-65), "c\x81\x01\x00"},
		{col(math.MaxInt), "c\xfe\xff\xff\xff\xff\xff\xff\xff\xff\x01\x00"},
		{col(math.MinInt), "c\xff\xff\xff\xff\xff\xff\xff\xff\xff\x01\x00"},
		{con(nothing), "k\x00\x00"},
		{con(yes), "k\x02b\x01\x00"},
		{con(no), "k\x02b\x00\x00"},
		{con("ta"), "k\x02ta\x00"},
		{con(five), "k\x09" + five + "\x00"},
		{of('?', col(2)), "?\x01c\x04\x00"},
		{of('!', of('?', col(2))), "!\x01?\x01c\x04\x00"},
		{of('<', col(1), con(five)), "<\x02c\x02\x00k\x09" + five + "\x00"},
		{of('<', con(five), col(1)), "<\x02k\x09" + five + "\x00c\x02\x00"},
		{of('=', col(1), con(five)), "=\x02c\x02\x00k\x09" + five + "\x00"},
		{of('=', con(five), col(1)), "=\x02c\x02\x00k\x09" + five + "\x00"},
		{of('&', col(1), col(0)), "&\x02c\x02\x00c\x00\x00"},
		{of('|', col(1), col(0)), "|\x02c\x02\x00c\x00\x00"},
		{of('=', col(1), col(0)), "=\x02c\x00\x00c\x02\x00"},
		// Whatever parts there are, they are counted, and stand there.
		{of('c', col(1)), "c\x00\x01c\x02\x00"},
		{of('k', col(1)), "k\x00\x01c\x02\x00"},
		{of('='), "=\x00"},
		{of('=', col(1)), "=\x01c\x02\x00"},
		{of('=', col(1), col(2), col(0)), "=\x03c\x02\x00c\x04\x00c\x00\x00"},
		{of('&', col(1), col(2), col(0)), "&\x03c\x02\x00c\x04\x00c\x00\x00"},
		{of('!'), "!\x00"},
		{api.Term{}, "\x00\x00"},
		{of('x', col(1), col(0)), "x\x02c\x02\x00c\x00\x00"},
		{of(0xff, col(1)), "\xff\x01c\x02\x00"},
		{of(0x80), "\x80\x00"},
	} {
		printsAs(t, x.t, x.p)
	}
}

// P17.1: of c its Col alone, of k its Cell alone, of all else neither.
func TestPrintFields(t *testing.T) {
	for op := range 256 {
		for _, c := range []int{0, 1, -1, 63, 64, 300, math.MinInt, math.MaxInt} {
			for _, s := range []string{nothing, yes, "\x00", "ta", strings.Repeat("x", 130)} {
				for many := range 4 {
					x := api.Term{Op: byte(op), Col: c, Cell: s}
					for i := range many {
						x.Kids = append(x.Kids, col(-i))
					}
					printsAs(t, x, want(x))
					switch {
					case op != 'c' && op != 'k':
						printsAs(t, x, Print(api.Term{Op: byte(op), Kids: x.Kids}))
					case op == 'c':
						printsAs(t, x, Print(api.Term{Op: 'c', Col: c, Kids: x.Kids}))
					default:
						printsAs(t, x, Print(api.Term{Op: 'k', Cell: s, Kids: x.Kids}))
					}
				}
			}
		}
	}
}

// P17.1: numbers in as many bytes as layer 2 gives them: of Cols, of how many bytes a Cell has, of how many parts there are.
func TestPrintNumbers(t *testing.T) {
	for bit := range 64 {
		for _, d := range []int{-1, 0, 1} {
			printsAs(t, col(1<<bit+d), want(col(1<<bit+d)))
			printsAs(t, col(-1<<bit+d), want(col(-1<<bit+d)))
		}
	}
	for _, many := range []int{0, 1, 2, 3, 126, 127, 128, 129, 255, 256, 16383, 16384, 1 << 17} {
		printsAs(t, con(strings.Repeat("\xfe", many)), want(con(strings.Repeat("\xfe", many))))
		x := api.Term{Op: '|'}
		for i := range many {
			x.Kids = append(x.Kids, col(i%5))
		}
		printsAs(t, x, want(x))
		x.Op = '='
		printsAs(t, x, want(x))
	}
}

// P17.1: of = of two the lesser one, by its bytes, stands first, whichever comes first; of all else, and of = of another number, they stay.
func TestPrintSame(t *testing.T) {
	// Each is less than the next one by its bytes, and by nothing else.
	rising := []api.Term{
		{}, of('!', of('!')), of('!', con(yes)), of('&'), of('<', col(0), col(5)), of('<', col(1), col(0)), of('=', col(0), col(9)), of('=', col(1), col(2)),
		of('?', con("")), col(0), of('c', col(0)), col(-1), col(1), col(2), col(-64), col(64), col(128), col(65), con(""), con("z"), con("a\x00"), con("aa"), con("b" + "\x00"), con("b\x01"),
		con("\x7f\x7f"), con("\x80\x00"), con("\xff\xff"), con("\x00\x00\x00"), con(strings.Repeat("a", 127)), con(strings.Repeat("b", 128)), con(strings.Repeat("a", 129)), of('|'), of(0x80), of(0xff),
	}
	for i, a := range rising {
		if i > 0 && !(want(rising[i-1]) < want(a)) {
			t.Fatalf("%s isn't less than %s", shown(rising[i-1]), shown(a))
		}
		for j, b := range rising {
			first, second := a, b
			if i > j {
				first, second = b, a
			}
			printsAs(t, of('=', a, b), "=\x02"+want(first)+want(second))
			for _, op := range []byte{'<', '&', '|', 'x', '!', '?', 0, 0xff, '>'} {
				printsAs(t, of(op, a, b), string([]byte{op})+"\x02"+want(a)+want(b))
			}
			printsAs(t, of('=', a, b, con(yes)), "=\x03"+want(a)+want(b)+want(con(yes)))
			printsAs(t, of('c', a, b), "c\x00\x02"+want(a)+want(b))
			printsAs(t, of('k', a, b), "k\x00\x02"+want(a)+want(b))
			for _, op := range ofTwoParts {
				printsAs(t, of(op, of('=', b, a), con(no)), want(of(op, of('=', a, b), con(no))))
			}
			printsAs(t, of('!', of('=', b, a)), "!\x01=\x02"+want(first)+want(second))
		}
		printsAs(t, of('=', a), "=\x01"+want(a))
	}
}

// P17.1: which one is the lesser is told by their Print, so by parts that are put in order themselves.
func TestPrintSameWithin(t *testing.T) {
	a, b, c, d := col(0), col(1), col(2), col(3)
	// As they come the first one is the greater; as they are printed it is the lesser.
	x, y := of('=', d, a), of('=', b, c)
	printsAs(t, of('=', x, y), "=\x02"+"=\x02c\x00\x00c\x06\x00"+"=\x02c\x02\x00c\x04\x00")
	printsAs(t, of('=', y, x), Print(of('=', x, y)))
	printsAs(t, of('=', of('=', x, y), of('=', b, a)), Print(of('=', of('=', a, b), of('=', of('=', c, b), of('=', a, d)))))
	for _, x := range raw() {
		for _, y := range over(leaves()[:4]) {
			for _, z := range []api.Term{of('=', x, y), of('=', y, x), of('=', of('!', y), of('!', x)), of('=', of('=', x, y), x), of('=', y, of('=', y, x)), of('=', of('=', x, y), of('=', y, x))} {
				printsAs(t, z, want(z))
			}
		}
	}
	// They part in one of many parts, the last one too.
	for many := range 9 {
		for at := range many {
			var l, m []api.Term
			for i := range many {
				l, m = append(l, col(i)), append(m, col(i))
			}
			m[at] = of('!', col(at))
			for _, op := range []byte{'&', '=', '?', 'c', 'x'} {
				a, b := of(op, l...), of(op, m...)
				printsAs(t, of('=', a, b), "=\x02"+min(want(a), want(b))+max(want(a), want(b)))
				printsAs(t, of('=', b, a), "=\x02"+min(want(a), want(b))+max(want(a), want(b)))
			}
		}
	}
	// They part behind all of a long beginning.
	long, other := con("z"), con("y")
	for range 300 {
		long, other = of('|', con(yes), long), of('|', con(yes), other)
	}
	printsAs(t, of('=', long, other), "=\x02"+want(other)+want(long))
	printsAs(t, of('=', other, long), "=\x02"+want(other)+want(long))
}

// P17.1: Print of all terms of up to two ops over a few leaves, and of raw ones.
func TestPrintAll(t *testing.T) {
	for _, x := range over(over(leaves()[:5])) {
		if got := Print(x); got != want(x) {
			t.Fatalf("Print of %s: %x, not %x", shown(x), got, want(x))
		}
	}
	for _, x := range over(raw()) {
		if got := Print(x); got != want(x) {
			t.Fatalf("Print of %s: %x, not %x", shown(x), got, want(x))
		}
	}
}

// turned tells whether two terms are the same, but for fields without a meaning, and parts of = of two in turned order.
func turned(a, b api.Term) bool {
	if a.Op != b.Op || len(a.Kids) != len(b.Kids) || a.Op == 'c' && a.Col != b.Col || a.Op == 'k' && a.Cell != b.Cell {
		return false
	}
	if a.Op == '=' && len(a.Kids) == 2 && turned(a.Kids[0], b.Kids[1]) && turned(a.Kids[1], b.Kids[0]) {
		return true
	}
	return slices.EqualFunc(a.Kids, b.Kids, turned)
}

// P17.1: terms have the same Print just where they are the same, but for the order of = of two.
func TestPrintTellsApart(t *testing.T) {
	l := append(over([]api.Term{col(0), con(nothing), con(yes), of('=', col(1), col(0)), of('=', col(0), col(1))}), raw()...)
	for _, a := range l {
		for _, b := range l {
			if (Print(a) == Print(b)) != turned(a, b) {
				t.Fatalf("%s and %s: %x and %x", shown(a), shown(b), Print(a), Print(b))
			}
		}
	}
}

// P17.1: True is k of yes, and nothing else.
func TestTrue(t *testing.T) {
	if !same(True(), api.Term{Op: 'k', Cell: yes}) {
		t.Errorf("True: %s", shown(True()))
	}
	if len(Parts(True())) != 0 {
		t.Error("True asks something")
	}
	for _, row := range rows() {
		if term.Eval(True(), row) != yes {
			t.Errorf("%q doesn't pass", row)
		}
	}
}

// P17.1: of & of two the parts of both, wherever they stand; of all else itself.
func TestPartsWritten(t *testing.T) {
	a, b, c, d := of('<', col(0), col(1)), of('=', col(2), col(1)), of('?', col(3)), of('|', con(yes), con(yes))
	hasParts(t, a, a)
	hasParts(t, of('&', a, b), a, b)
	hasParts(t, of('&', b, a), a, b)
	hasParts(t, of('&', of('&', a, b), a), a, b)
	hasParts(t, of('&', a, of('&', b, a)), a, b)
	hasParts(t, of('&', a, a), a)
	hasParts(t, of('&', of('&', d, c), of('&', b, a)), a, b, c, d)
	hasParts(t, of('&', d, of('&', c, of('&', b, a))), a, b, c, d)
	hasParts(t, of('&', of('&', of('&', d, c), b), a), a, b, c, d)
	hasParts(t, of('&', of('&', b, d), of('&', d, of('&', b, b))), b, d)
	// What stands below another Op isn't asked at once.
	for _, x := range []api.Term{
		of('!', of('&', a, b)), of('|', of('&', a, b), a), of('|', a, a), of('?', of('&', a, b)), of('=', of('&', b, a), con(yes)), of('<', con(no), of('&', a, b)),
		of('x', a, b), of('x', of('&', a, b)), of('!', True()), of('|', True(), True()), of('=', True(), True()),
	} {
		hasParts(t, x, x)
		hasParts(t, of('&', x, x), x)
		hasParts(t, of('&', True(), x), x)
		hasParts(t, of('&', x, True()), x)
	}
}

// P17.1: & of another number of parts than two is a part itself, as it stands.
func TestPartsOfOtherMany(t *testing.T) {
	a, b := of('!', col(1)), of('!', col(0))
	for _, x := range []api.Term{of('&'), of('&', a), of('&', True()), of('&', of('&', a, b)), of('&', a, b, a), of('&', a, b, True()), of('&', a, b, a, b), {Op: '&', Kids: []api.Term{a, b}[:1]}} {
		hasParts(t, x, x)
		hasParts(t, of('&', x, a), a, x)
		hasParts(t, of('&', a, x), a, x)
	}
	// Of two the fields don't count.
	hasParts(t, api.Term{Op: '&', Col: 3, Cell: yes, Kids: []api.Term{a, b}}, b, a)
}

// P17.1: what has True's Print is none, whatever has no meaning in it; what hasn't is a part, though it is yes too.
func TestPartsOfTrue(t *testing.T) {
	for _, x := range []api.Term{True(), con(yes), {Op: 'k', Cell: yes, Col: 5}, {Op: 'k', Cell: yes, Col: -1, Kids: []api.Term{}}, {Op: 'k', Cell: yes, Kids: []api.Term{con(yes)}[:0]}} {
		hasParts(t, x)
		hasParts(t, of('&', x, x))
		hasParts(t, of('&', of('&', x, True()), of('&', x, x)))
		hasParts(t, of('&', x, col(0)), col(0))
		hasParts(t, of('&', col(0), x), col(0))
	}
	for _, x := range []api.Term{
		con(no), con(nothing), con("b"), con("\x01"), con("b\x01\x00"), con("b\x02"), con(cell.Int(1)), con(cell.Text("\x01")), {Op: 'c', Cell: yes}, {Op: 'x', Cell: yes},
		{Op: 'k', Cell: yes, Kids: []api.Term{con(yes)}}, of('?', con(nothing)), of('!', con(no)), of('=', con(yes), con(yes)), {Op: '&', Cell: yes}, {},
	} {
		hasParts(t, x, x)
		hasParts(t, of('&', True(), of('&', x, True())), x)
	}
}

// P17.1: parts rise by their Print, by nothing else.
func TestPartsRise(t *testing.T) {
	l := []api.Term{
		{}, of('!', con(yes)), of('&'), of('<', col(1), col(0)), of('=', of('='), col(0)), of('=', col(1), col(0)), col(0), col(-1), col(1), col(2), col(-64), col(64), col(128), col(65),
		con(""), con("z"), con("aa"), con(no), con("\xff\xff"), con("\x00\x00\x00"), of('|', col(0), col(0)), of(0x80), of(0xff),
	}
	for i := range l[1:] {
		if !(want(l[i]) < want(l[i+1])) {
			t.Fatalf("%s isn't less than %s", shown(l[i]), shown(l[i+1]))
		}
	}
	for seed := range 50 {
		x := True()
		for _, i := range order(len(l), seed) {
			if seed%2 == 0 {
				x = of('&', x, l[i])
			} else {
				x = of('&', l[i], x)
			}
		}
		hasParts(t, x, l...)
		hasParts(t, of('&', x, x), l...)
	}
}

// order is the numbers below many in an order that hangs on seed.
func order(many, seed int) []int {
	var l []int
	for i := range many {
		l = slices.Insert(l, (i*seed+seed/3)%(i+1), i)
	}
	return l
}

// P17.1: of the same Print the first one alone, as it stands there.
func TestPartsFirst(t *testing.T) {
	likes := [][]api.Term{
		{of('=', col(0), col(1)), of('=', col(1), col(0)), {Op: '=', Col: 4, Kids: []api.Term{col(1), col(0)}}},
		{{Op: 'c', Col: 1, Cell: "x"}, {Op: 'c', Col: 1, Cell: "y"}, col(1)},
		{{Op: 'k', Col: 3}, {Op: 'k', Col: -1}, con(nothing)},
		{{Op: '!', Col: 1, Kids: []api.Term{con(no)}}, {Op: '!', Kids: []api.Term{{Op: 'k', Col: 1, Cell: no}}}, {Op: '!', Cell: no, Kids: []api.Term{con(no)}}},
		{of('=', of('=', col(0), con(yes)), col(2)), of('=', col(2), of('=', col(0), con(yes))), of('=', of('=', con(yes), col(0)), col(2))},
	}
	for _, l := range likes {
		for _, a := range l {
			for _, b := range l {
				hasParts(t, of('&', a, b), a)
				for _, c := range l {
					hasParts(t, of('&', a, of('&', b, c)), a)
					hasParts(t, of('&', of('&', a, b), c), a)
					hasParts(t, of('&', of('&', con("\x00"), a), of('&', b, of('&', con("\x01"), c))), rise(con("\x00"), con("\x01"), a)...)
				}
			}
			if Print(a) != Print(l[0]) {
				t.Fatalf("%s and %s aren't alike", shown(a), shown(l[0]))
			}
		}
	}
	// Many of each, so that a sort that lets alike ones change places would be seen.
	for seed := range 20 {
		x := True()
		first := map[int]api.Term{}
		for i, at := range order(400, seed+7) {
			a := api.Term{Op: 'c', Col: at % 9, Cell: fmt.Sprint(i)}
			if _, there := first[a.Col]; !there {
				first[a.Col] = a
			}
			x = of('&', x, a)
		}
		var l []api.Term
		for i := range 9 {
			l = append(l, first[i])
		}
		hasParts(t, x, l...)
	}
}

// rise is the terms in the order of their Print.
func rise(l ...api.Term) []api.Term {
	sort.SliceStable(l, func(i, j int) bool { return want(l[i]) < want(l[j]) })
	return l
}

// P17.1: Parts of all terms of up to three ops over a few leaves, and of raw ones.
func TestPartsAll(t *testing.T) {
	small := []api.Term{col(1), con(yes), of('=', col(1), col(0)), of('=', col(0), col(1)), of('&', col(1), con(no)), {Op: 'k', Cell: yes, Col: 2}}
	for _, x := range append(over(over(small)), over(over(raw()[4:8]))...) {
		if got, l := Parts(x), wantParts(x); !slices.EqualFunc(got, l, same) {
			t.Fatalf("Parts of %s: %s, not %s", shown(x), shown(got...), shown(l...))
		}
	}
	for _, x := range over(raw()) {
		if got, l := Parts(x), wantParts(x); !slices.EqualFunc(got, l, same) {
			t.Fatalf("Parts of %s: %s, not %s", shown(x), shown(got...), shown(l...))
		}
	}
}

// P17.1: Join of none is True; of more all ahead on the left, the next one on the right, as they stand.
func TestJoin(t *testing.T) {
	joinsTo(t, nil, con(yes))
	joinsTo(t, []api.Term{}, con(yes))
	joinsTo(t, []api.Term{col(0)}[:0], con(yes))
	a, b, c, d := of('<', col(1), col(0)), of('=', col(1), col(0)), True(), con("x")
	joinsTo(t, []api.Term{a}, a)
	joinsTo(t, []api.Term{c}, c)
	joinsTo(t, []api.Term{{}}, api.Term{})
	joinsTo(t, []api.Term{d, a}, of('&', d, a))
	joinsTo(t, []api.Term{a, d}, of('&', a, d))
	joinsTo(t, []api.Term{c, c}, of('&', c, c))
	joinsTo(t, []api.Term{c, a, c}, of('&', of('&', c, a), c))
	joinsTo(t, []api.Term{d, b, a}, of('&', of('&', d, b), a))
	joinsTo(t, []api.Term{d, c, b, a}, of('&', of('&', of('&', d, c), b), a))
	joinsTo(t, []api.Term{of('&', a, b), of('&', c, d), of('&', a, b)}, of('&', of('&', of('&', a, b), of('&', c, d)), of('&', a, b)))
	l := raw()
	for many := range l {
		x := Join(l[:many])
		for i := many - 1; i > 0; i-- {
			if x.Op != '&' || x.Col != 0 || x.Cell != "" || len(x.Kids) != 2 || !same(x.Kids[1], l[i]) {
				t.Fatalf("of %d the one at %d isn't on the right: %s", many, i, shown(x))
			}
			x = x.Kids[0]
		}
		if many > 0 && !same(x, l[0]) || many == 0 && !same(x, con(yes)) {
			t.Fatalf("of %d the first one: %s", many, shown(x))
		}
	}
}

// P17.2: Parts, joined, are yes of just the rows that the term is yes of, whatever else it comes to.
func TestTheSame(t *testing.T) {
	small := []api.Term{col(0), con(yes), con(nothing), of('=', col(1), col(0)), of('&', col(1), col(0)), con(cell.Int(1))}
	l := append(over(over(small)), over(over(raw()[4:8]))...)
	some, left := 0, 0
	for _, x := range append(l, over(raw())...) {
		joined := Join(Parts(x))
		for _, row := range rows() {
			is := term.Eval(x, row) == yes
			if is != (term.Eval(joined, row) == yes) {
				t.Fatalf("%s, joined of its Parts %s, of %q: %v no more", shown(x), shown(joined), row, is)
			}
			if is {
				some++
			} else {
				left++
			}
		}
	}
	if some < 1000 || left < 1000 {
		t.Errorf("just %d are yes, and %d not", some, left)
	}
}

// P17.2: Parts that are joined have the same Parts, so they are told once for all.
func TestPartsOfJoined(t *testing.T) {
	small := []api.Term{col(0), col(1), con(yes), of('=', col(1), col(0)), of('=', col(0), col(1)), of('&', col(1), con(no))}
	for _, x := range over(over(small)) {
		l := Parts(x)
		if again := Parts(Join(l)); !slices.EqualFunc(again, l, same) {
			t.Fatalf("Parts of %s: %s, and joined %s", shown(x), shown(l...), shown(again...))
		}
	}
}

// The chapter's example.
func TestAAndBAndA(t *testing.T) {
	a, b := col(0), col(1)
	hasParts(t, of('&', of('&', a, b), a), a, b)
}

// Parts may be nested 65,536 deep, on either side: each call ends, and soon.
func TestDeep(t *testing.T) {
	const many = 1<<16 - 1
	for _, op := range append(slices.Clone(ops), 'x') {
		for side := range 3 {
			x := con("end")
			for i := range many {
				// Of = the greater, or the lesser one, has all that is below.
				switch side {
				case 0:
					x = of(op, x)
				case 1:
					x = of(op, x, of('!', col(i%3)))
				case 2:
					x = of(op, of('|', col(i%3)), x)
				}
			}
			p := Print(x)
			if strings.Count(p, "k\x03end\x00") != 1 || len(p) < 2*many {
				t.Fatalf("%q on side %d: %d bytes", op, side, len(p))
			}
			l := Parts(x)
			if op != '&' || side == 0 {
				if len(l) != 1 || Print(l[0]) != p {
					t.Fatalf("%q on side %d: %d parts", op, side, len(l))
				}
			} else if len(l) != 4 {
				t.Fatalf("& on side %d: %d parts", side, len(l))
			}
			if j := Join([]api.Term{x}); Print(j) != p {
				t.Fatalf("%q on side %d: joined alone another term", op, side)
			}
		}
	}
}

// Very many parts, all unlike, and joined again.
func TestMany(t *testing.T) {
	const many = 1 << 16
	x := True()
	var l []api.Term
	for i := range many {
		x = of('&', x, col(many-1-i))
		l = append(l, col(i))
	}
	hasParts(t, x, rise(l...)...)
	if got := Parts(Join(l)); len(got) != many || !slices.EqualFunc(got, rise(l...), same) {
		t.Errorf("%d parts of %d that are joined", len(got), many)
	}
}

// Whatever is given, the calls end, and tell what they should.
func TestWhateverIsGiven(t *testing.T) {
	ends := []int{0, 1, -1, 64, math.MaxInt, math.MinInt}
	for op := range 256 {
		for i, c := range ends {
			x := api.Term{Op: byte(op), Col: c, Cell: []string{nothing, yes, "\xff", "b", "\x00b", cell.Int(-1)}[i]}
			for _, y := range []api.Term{x, of(byte(op), x), of(byte(op), con(yes), x), of(byte(op), x, x, x), of('&', x, of(byte(op), x)), of('=', x, of(byte(op), x, col(1)))} {
				printsAs(t, y, want(y))
				hasParts(t, y, wantParts(y)...)
				joinsTo(t, []api.Term{y, x}, of('&', y, x))
			}
		}
	}
}

// roomy is the term with spare room behind each list of parts.
func roomy(x api.Term) api.Term {
	kids := make([]api.Term, 0, len(x.Kids)+1)
	for _, k := range x.Kids {
		kids = append(kids, roomy(k))
	}
	x.Kids = append(kids, con("spare"))[:len(kids)]
	return x
}

// spared tells whether a roomy term is still as it was, with its spare room.
func spared(x, was api.Term) bool {
	for i, k := range x.Kids {
		if i >= len(was.Kids) || !spared(k, was.Kids[i]) {
			return false
		}
	}
	return same(x, was) && same(x.Kids[:len(x.Kids)+1][len(x.Kids)], con("spare"))
}

// given are conditions with parts to be put in order, to be left out, and to be taken twice.
func given() []api.Term {
	small := []api.Term{col(1), True(), of('=', con(no), col(0)), of('&', col(1), of('!', col(0)))}
	return append(over(over(small)), raw()...)
}

// What is handed in stays as it was, its spare room too.
func TestNothingIsChanged(t *testing.T) {
	for _, was := range given() {
		x := roomy(was)
		p, l := Print(x), Parts(x)
		if !spared(x, was) {
			t.Fatalf("%s is changed", shown(was))
		}
		if Print(was) != p || !slices.EqualFunc(Parts(was), l, same) {
			t.Fatalf("%s: other answers where there is spare room", shown(was))
		}
		list := []api.Term{x, con("second"), x, con("room")}
		Join(list[:3])
		Join(list[:1])
		if !spared(list[0], was) || !spared(list[2], was) || !same(list[1], con("second")) || !same(list[3], con("room")) {
			t.Fatalf("%s is changed by Join", shown(was))
		}
	}
}

// spoil changes all of a term's lists, and their spare room.
func spoil(x api.Term) {
	all := x.Kids[:cap(x.Kids)]
	for i := range all {
		spoil(all[i])
		all[i] = con("spoilt")
	}
}

// Answers share nothing with what was handed in, nor with one another: one that is changed changes nothing else.
func TestAnswersShareNothing(t *testing.T) {
	for _, was := range given() {
		x := deep(was)
		l := Parts(x)
		before := []api.Term{}
		for _, p := range l {
			before = append(before, deep(p))
		}
		for i := range l {
			spoil(l[i])
			for j := i + 1; j < len(l); j++ {
				if !same(l[j], before[j]) {
					t.Fatalf("Parts of %s share lists", shown(was))
				}
			}
		}
		if !same(x, was) {
			t.Fatalf("a part of %s that is changed changes it", shown(was))
		}
		list := []api.Term{x, x, x}
		for many := range 4 {
			j := Join(list[:many])
			if many == 3 {
				spoil(j.Kids[1])
				if !same(j.Kids[0], of('&', was, was)) {
					t.Fatalf("%s joined with itself shares lists", shown(was))
				}
			}
			spoil(j)
			if !same(x, was) || !same(list[0], was) || !same(list[2], was) {
				t.Fatalf("what %s is joined to changes it", shown(was))
			}
		}
	}
	spoil(True())
	x := Join(nil)
	x.Cell = "spoilt"
	if !same(True(), con(yes)) || !same(Join(nil), con(yes)) {
		t.Error("True is kept")
	}
	// The other way round: what was handed in may be changed afterwards.
	y := of('&', of('=', col(1), col(0)), of('!', col(0)))
	parts, joined := Parts(y), Join([]api.Term{y})
	spoil(y)
	if !slices.EqualFunc(parts, []api.Term{of('!', col(0)), of('=', col(1), col(0))}, same) || !same(joined, of('&', of('=', col(1), col(0)), of('!', col(0)))) {
		t.Error("an answer changes with what was handed in")
	}
}

// Any number of goroutines may call at once, of one term too.
func TestAtOnce(t *testing.T) {
	x := of('&', of('&', of('=', con(yes), col(1)), of('!', col(0))), of('&', True(), of('=', col(1), con(yes))))
	p, parts := want(x), wantParts(x)
	var all sync.WaitGroup
	for range 8 {
		all.Go(func() {
			for range 100 {
				l := Parts(x)
				if Print(x) != p || !slices.EqualFunc(l, parts, same) || !same(Join(l), of('&', parts[0], parts[1])) {
					t.Error("calls at once aren't as one alone")
				}
			}
		})
	}
	all.Wait()
}
