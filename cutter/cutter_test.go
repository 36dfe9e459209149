package cutter

import (
	"fmt"
	"math"
	"math/big"
	"slices"
	"strconv"
	"strings"
	"sync"
	"testing"

	"distiller/api"
	"distiller/block"
	"distiller/cell"
	"distiller/column"
	"distiller/shelf"
)

// at is a row of these cells, so often.
func at(n int, row ...string) api.Times {
	return api.Times{Row: row, N: n}
}

// text is a column of texts, or nothing.
var text = []api.Col{{Kind: api.KindText, Null: true}}

// rowsOf are rows of one text each, of one letter, a large letter twice, the others once.
func rowsOf(letters string) []api.Times {
	var l []api.Times
	for _, b := range []byte(letters) {
		n := 1
		if b >= 'A' && b <= 'Z' {
			b, n = b+'a'-'A', 2
		}
		l = append(l, at(n, "t"+string([]byte{b})))
	}
	return l
}

// listsOf are all lists of up to most of these.
func listsOf[T any](these []T, most int) [][]T {
	l := [][]T{nil}
	longest := l
	for range most {
		var next [][]T
		for _, before := range longest {
			for _, x := range these {
				next = append(next, append(slices.Clip(before), x))
			}
		}
		l = append(l, next...)
		longest = next
	}
	return l
}

// someOf are all choices of these, as they stand.
func someOf[T any](these []T) [][]T {
	l := [][]T{nil}
	for _, x := range these {
		for _, before := range slices.Clone(l) {
			l = append(l, append(slices.Clip(before), x))
		}
	}
	return l
}

// wantNumber is the row's number, by numbers without ends.
func wantNumber(row []string) uint64 {
	end := new(big.Int).Lsh(big.NewInt(1), 64)
	n := big.NewInt(1469598103934665603)
	for _, b := range []byte(strings.Join(append(slices.Clone(row), ""), "\x00")) {
		n.Xor(n, big.NewInt(int64(b)))
		n.Mod(n.Mul(n, big.NewInt(1099511628211)), end)
	}
	return n.Xor(n, new(big.Int).Rsh(n, 32)).Uint64()
}

// wantCut are the rows in pieces.
func wantCut(l []api.Times) [][]api.Times {
	var pieces [][]api.Times
	for i := 0; i < len(l); {
		end := i + 1
		for end < len(l) && wantNumber(l[end].Row)%8 != 0 {
			end++
		}
		pieces = append(pieces, l[i:end])
		i = end
	}
	return pieces
}

// wantBlocks are the pieces' blocks, each by the layers that print columns and how often.
func wantBlocks(l []api.Times, cols int) []api.Block {
	var blocks []api.Block
	for _, piece := range wantCut(l) {
		b := api.Block{Rows: len(piece)}
		var many []int
		for _, x := range piece {
			many = append(many, x.N)
		}
		b.N = shelf.Print(many)
		for c := range cols {
			var cells []string
			for _, x := range piece {
				cells = append(cells, x.Row[c])
			}
			b.Cols = append(b.Cols, column.Print(cells))
		}
		blocks = append(blocks, b)
	}
	return blocks
}

// ahead tells whether a row stands ahead of another one: by the first cell that is unlike, else the shorter one.
func ahead(a, b []string) bool {
	for i := 0; i < len(a) && i < len(b); i++ {
		if a[i] != b[i] {
			return a[i] < b[i]
		}
	}
	return len(a) < len(b)
}

// rising tells whether rows are in order, and each is there.
func rising(l []api.Times) bool {
	for i, x := range l {
		if x.N < 1 || i > 0 && !ahead(l[i-1].Row, x.Row) {
			return false
		}
	}
	return true
}

// summed are both in order, and true, if no row goes below none.
func summed(l, more []api.Times) ([]api.Times, bool) {
	var both []api.Times
	for _, x := range slices.Concat(l, more) {
		i := slices.IndexFunc(both, func(y api.Times) bool { return slices.Equal(x.Row, y.Row) })
		if i < 0 {
			both = append(both, x)
		} else {
			both[i].N += x.N
		}
	}
	both = slices.DeleteFunc(both, func(x api.Times) bool { return x.N == 0 })
	for i := range both {
		for k := i; k > 0 && ahead(both[k].Row, both[k-1].Row); k-- {
			both[k], both[k-1] = both[k-1], both[k]
		}
	}
	return both, !slices.ContainsFunc(both, func(x api.Times) bool { return x.N < 0 })
}

// touched tells of each piece whether its rows are written, by the chapter's words.
func touched(pieces [][]api.Times, more []api.Times) []bool {
	is := make([]bool, len(pieces))
	for _, x := range more {
		for i := len(pieces) - 1; i >= 0; i-- {
			if i > 0 && ahead(x.Row, pieces[i][0].Row) {
				continue
			}
			is[i] = true
			if i > 0 && slices.Equal(x.Row, pieces[i][0].Row) {
				is[i-1] = true
			}
			break
		}
	}
	return is
}

// wantWritten is how many rows are written.
func wantWritten(pieces [][]api.Times, more []api.Times) int {
	many := len(more)
	for i, is := range touched(pieces, more) {
		if is {
			many += len(pieces[i])
		}
	}
	return many
}

// same tells whether two lists have the same rows, as often, as they stand.
func same(a, b []api.Times) bool {
	return slices.EqualFunc(a, b, func(x, y api.Times) bool { return x.N == y.N && slices.Equal(x.Row, y.Row) })
}

// alike tells whether two blocks have the same bytes.
func alike(a, b api.Block) bool {
	return a.Rows == b.Rows && a.N == b.N && slices.Equal(a.Cols, b.Cols)
}

// allAlike tells whether two lists have the same blocks.
func allAlike(a, b []api.Block) bool {
	return slices.EqualFunc(a, b, alike)
}

// deep is the list in memory of its own.
func deep(l []api.Times) []api.Times {
	out := make([]api.Times, len(l))
	for i, x := range l {
		out[i] = api.Times{Row: slices.Clone(x.Row), N: x.N}
	}
	return out
}

// deepBlocks are the blocks in memory of their own.
func deepBlocks(l []api.Block) []api.Block {
	out := slices.Clone(l)
	for i := range out {
		out[i].Cols = slices.Clone(out[i].Cols)
	}
	return out
}

// shown are these for an error's text, cut short.
func shown(these ...any) string {
	var s string
	for _, x := range these {
		s += fmt.Sprintf("%.300s; ", fmt.Sprintf("%#v", x))
	}
	return s
}

// isChange tells it, if Change isn't as it is to be.
func isChange(t *testing.T, l []api.Times, cols []api.Col, more []api.Times) {
	t.Helper()
	b := Blocks(l, len(cols))
	got, many, e := Change(b, cols, more)
	now, good := summed(l, more)
	if !good {
		if e != api.ErrUnder || many != 0 || !allAlike(got, b) {
			t.Fatalf("%s are taken: %s", shown(l, more), shown(got, many, e))
		}
		return
	}
	if want := wantWritten(wantCut(l), more); e != api.OK || many != want || !allAlike(got, wantBlocks(now, len(cols))) {
		t.Fatalf("%s: %s, not %s", shown(l, more), shown(got, many, e), shown(wantBlocks(now, len(cols)), want))
	}
}

// numbers are the numbers from low on to high, each once, as rows with a text, too.
func numbers(low, high int) []api.Times {
	var l []api.Times
	for i := low; i <= high; i++ {
		l = append(l, at(1, cell.Int(i), cell.Text("n"+strconv.Itoa(i))))
	}
	return l
}

// numberCols are the columns of numbers.
func numberCols() []api.Col {
	return []api.Col{{Kind: api.KindInt}, {Kind: api.KindText}}
}

// P13.1: written out: rows of no cells, of nothing, of bytes at either end, and of two cells in either order.
func TestNumberWrittenOut(t *testing.T) {
	for _, x := range []struct {
		row  []string
		want uint64
	}{
		{nil, 0x14650fb067f80c33},
		{[]string{}, 0x14650fb067f80c33},
		{[]string{""}, 0x44bd2bd43771dc4d},
		{[]string{"", ""}, 0x9a6913005f21abfb},
		{[]string{"\x00"}, 0x9a6913005f21abfb},
		{[]string{"a"}, 0x9babed005df0e832},
		{[]string{"ab"}, 0xe1685e51ecd16355},
		{[]string{"a", "b"}, 0x8fc011b80b29d868},
		{[]string{"b", "a"}, 0xf0a24bb0dfcdf118},
		{[]string{"", "a"}, 0xaa871f4f912381f7},
		{[]string{"a", ""}, 0xe028ea51ec8139a7},
		{[]string{"\xff"}, 0x9a5149005f65cbdc},
		{[]string{"\x80"}, 0x98b613005b61377b},
		{[]string{cell.Bool(true)}, 0xd77c0951d0c2fb73},
		{[]string{cell.Bool(false)}, 0xd77f6f51d0beba1a},
		{[]string{cell.Text("ab")}, 0xbbe3ab6894960e66},
		{[]string{cell.Text("")}, 0x9bf34b005d64ec8f},
		{[]string{cell.Int(0)}, 0xc833e9b1b3c3c18b},
		{[]string{cell.Int(1)}, 0xc8374fb1b3c444d2},
		{[]string{cell.Int(-1)}, 0x7cab87e7db4fc7c5},
		{[]string{cell.Int(7), "", cell.Text("x")}, 0x4e6e253273ccbbd3},
		{[]string{strings.Repeat("\xff", 17)}, 0xb6e4490751c1b1ab},
	} {
		if got := Number(x.row); got != x.want {
			t.Errorf("%q: %#x, not %#x", x.row, got, x.want)
		}
	}
}

// P13.1: all rows of up to three short texts, each byte alone, and long rows and cells, against numbers without ends.
func TestNumber(t *testing.T) {
	rows := listsOf([]string{"", "\x00", "a", "\xff", "ta", "t\x00a", cell.Int(-2)}, 3)
	for b := range 256 {
		rows = append(rows, []string{string([]byte{byte(b)})}, []string{"t", string([]byte{'t', byte(b)})})
	}
	for n := range 40 {
		rows = append(rows, slices.Repeat([]string{"ta"}, n), []string{strings.Repeat("ab", n)}, []string{cell.Int(1 << n)})
	}
	for _, row := range rows {
		if got, want := Number(row), wantNumber(row); got != want || First(row) != (want%8 == 0) {
			t.Fatalf("%q: %#x and %t, not %#x", row, got, First(row), want)
		}
	}
}

// P13.1: a row begins a block if all three of the lowest bits are 0, whatever those above are.
func TestFirstWrittenOut(t *testing.T) {
	for letter, lowest := range map[string]uint64{"d": 0, "e": 1, "f": 2, "g": 3, "h": 4, "a": 5, "b": 6, "c": 7, "l": 0, "t": 0} {
		row := []string{cell.Text(letter)}
		if Number(row)&7 != lowest || First(row) != (lowest == 0) {
			t.Errorf("%q: %#x, %t", row, Number(row), First(row))
		}
	}
	if First(nil) || !First([]string{"a", "b"}) || !First([]string{"b", "a"}) {
		t.Error("other rows begin a block")
	}
	seen := map[uint64]bool{}
	for i := range 2000 {
		row := []string{cell.Int(i), cell.Int(i * i)}
		n := Number(row)
		seen[n&15] = true
		if First(row) != (n<<61 == 0) {
			t.Fatalf("%q: %#x, %t", row, n, First(row))
		}
	}
	if len(seen) != 16 {
		t.Errorf("%d of 16", len(seen))
	}
}

// P13.1: written out: td, tl and tt begin blocks, no other letter of these does.
func TestCutWrittenOut(t *testing.T) {
	for _, x := range []struct{ all, pieces string }{
		{"", ""},
		{"a", "a"},
		{"d", "d"},
		{"ab", "ab"},
		{"ad", "a d"},
		{"da", "da"},
		{"dl", "d l"},
		{"abcdefghijklmnopqrstuvwxyz", "abc defghijk lmnopqrs tuvwxyz"},
		{"defltu", "def l tu"},
		{"tld", "t l d"},
		{"dd", "d d"},
		{"aada", "aa da"},
		{"zyxtbLAD", "zyx tb LA D"},
	} {
		var want [][]api.Times
		for _, piece := range strings.Fields(x.pieces) {
			want = append(want, rowsOf(piece))
		}
		if got := Cut(rowsOf(x.all)); !slices.EqualFunc(got, want, same) {
			t.Errorf("%s: %s", x.all, shown(got))
		}
	}
}

// P13.1: all lists of up to five rows, of those that begin a block and those that don't, in any order, once, more often, none or fewer.
func TestCutShortLists(t *testing.T) {
	these := []api.Times{at(1, "ta"), at(3, "td"), at(0, "tl"), at(-2, "tc"), at(math.MinInt), at(1, "a", "b")}
	for _, l := range listsOf(these, 5) {
		if got, want := Cut(l), wantCut(l); !slices.EqualFunc(got, want, same) {
			t.Fatalf("%s: %s", shown(l), shown(got))
		}
	}
}

// P13.1: the first row alone tells nothing of its piece: by its number it may begin one or not.
func TestCutManyRows(t *testing.T) {
	l := numbers(-1000, 1000)
	for from := range 30 {
		pieces := Cut(l[from:])
		if !slices.EqualFunc(pieces, wantCut(l[from:]), same) || !same(slices.Concat(pieces...), l[from:]) {
			t.Fatalf("from %d on: %d pieces", from, len(pieces))
		}
		if len(pieces) < 100 || len(pieces) > 500 {
			t.Fatalf("%d pieces", len(pieces))
		}
	}
}

// P13.1: each piece's block, of all columns, of the first ones, and of none.
func TestBlocks(t *testing.T) {
	for _, l := range [][]api.Times{nil, numbers(1, 1), numbers(1, 100), numbers(-50, 50)} {
		for cols := range 3 {
			got := Blocks(l, cols)
			if !allAlike(got, wantBlocks(l, cols)) {
				t.Errorf("%s: %s", shown(l, cols), shown(got))
			}
			for i, piece := range Cut(l) {
				if !alike(got[i], block.Of(piece, cols)) {
					t.Errorf("%s: %s", shown(piece, cols), shown(got[i]))
				}
			}
		}
	}
	if got := Blocks(rowsOf("cdL"), 1); !allAlike(got, []api.Block{
		{Rows: 1, Cols: []string{"\x01\x00\x02tc\x01"}, N: "\x02\x00"},
		{Rows: 1, Cols: []string{"\x01\x00\x02td\x01"}, N: "\x02\x00"},
		{Rows: 1, Cols: []string{"\x01\x00\x02tl\x01"}, N: "\x04\x00"},
	}) {
		t.Errorf("written out: %s", shown(got))
	}
}

// P13.1: rows that haven't so many cells, and columns at the ends of int, don't matter but for their own block.
func TestBlocksOfWrongRows(t *testing.T) {
	for _, cols := range []int{math.MinInt, -1, 2, 1 << 40, math.MaxInt} {
		if got := Blocks(nil, cols); len(got) != 0 {
			t.Errorf("no rows: %s", shown(got))
		}
		for _, l := range listsOf([]api.Times{at(1, "ta"), at(2, "td"), at(1), at(1, "a", "b")}, 4) {
			got := Blocks(l, cols)
			for i, piece := range wantCut(l) {
				if len(got) != len(wantCut(l)) || !alike(got[i], block.Of(piece, cols)) {
					t.Fatalf("%s: %s", shown(l, cols), shown(got))
				}
			}
		}
	}
}

// P13.2: all lists of up to four blocks of a few rows: read, where their rows are in order, whether or not they are cut so.
func TestAllShortLists(t *testing.T) {
	pieces := []string{"a", "ab", "c", "bc", "d", "cd", "B"}
	read := 0
	for _, these := range listsOf(pieces, 4) {
		var l []api.Times
		var b []api.Block
		for _, letters := range these {
			l = append(l, rowsOf(letters)...)
			b = append(b, block.Of(rowsOf(letters), 1))
		}
		got, e := All(b, text)
		if rising(l) {
			read++
			if e != api.OK || !same(got, l) {
				t.Fatalf("%q: %s", these, shown(got, e))
			}
		} else if e != api.ErrForm || len(got) != 0 {
			t.Fatalf("%q are read: %s", these, shown(got, e))
		}
	}
	if read < 20 {
		t.Errorf("%d are read", read)
	}
}

// P13.2: of each list of rows in order the blocks are read again, under as many columns.
func TestAllThereAndBack(t *testing.T) {
	for _, l := range [][]api.Times{nil, numbers(0, 0), numbers(-300, 300), {at(5)}} {
		cols := numberCols()
		if len(l) == 1 && len(l[0].Row) == 0 {
			cols = nil
		}
		got, e := All(Blocks(l, len(cols)), cols)
		if e != api.OK || !same(got, l) {
			t.Errorf("%s: %s", shown(l), shown(got, e))
		}
	}
	for _, l := range someOf(rowsOf("abDefklMtu")) {
		if got, e := All(Blocks(l, 1), text); e != api.OK || !same(got, l) {
			t.Fatalf("%s: %s", shown(l), shown(got, e))
		}
	}
}

// P13.2: one that is no block, wherever it stands: empty, without rows, other columns, bytes behind, rows that aren't there.
func TestAllOfNoBlocks(t *testing.T) {
	good := Blocks(rowsOf("abdeLmtu"), 1)
	wrong := []api.Block{
		{},
		block.Of(nil, 1),
		block.Of(rowsOf("d"), 0),
		block.Of([]api.Times{at(1, "td", "td")}, 2),
		block.Of([]api.Times{at(0, "td")}, 1),
		block.Of([]api.Times{at(-1, "td")}, 1),
		block.Of([]api.Times{at(1, cell.Int(1))}, 1),
		block.Of(rowsOf("ed"), 1),
		block.Of(rowsOf("dd"), 1),
	}
	for i, b := range good {
		for _, w := range append(wrong,
			api.Block{Rows: b.Rows, Cols: b.Cols, N: b.N + "\x00"},
			api.Block{Rows: b.Rows + 1, Cols: b.Cols, N: b.N},
			api.Block{Rows: b.Rows, Cols: []string{b.Cols[0] + "\x00"}, N: b.N},
			api.Block{Rows: b.Rows, Cols: []string{""}, N: b.N},
			api.Block{Rows: -1, Cols: b.Cols, N: b.N},
		) {
			l := deepBlocks(good)
			l[i] = w
			if got, e := All(l, text); e != api.ErrForm || len(got) != 0 {
				t.Errorf("%s is read: %s", shown(w), shown(got, e))
			}
			if got, many, e := Change(l, text, rowsOf("a")); e == api.OK || many != 0 || len(got) != 0 {
				t.Errorf("%s is changed: %s", shown(w), shown(got, many, e))
			}
		}
	}
	for _, cols := range [][]api.Col{nil, {{Kind: api.KindInt, Null: true}}, {{Null: true}}, append(slices.Clone(text), text...)} {
		if got, e := All(good, cols); e != api.ErrForm || len(got) != 0 {
			t.Errorf("%s: %s", shown(cols), shown(got, e))
		}
		if got, e := All(nil, cols); e != api.OK || len(got) != 0 {
			t.Errorf("%s: no blocks: %s", shown(cols), shown(got, e))
		}
	}
}

// P13.2: rows of one block alone may be in order, and those of its neighbour, but not both together.
func TestAllInOrder(t *testing.T) {
	good := Blocks(rowsOf("abdeLmtu"), 1)
	for i := range good {
		for k := range i {
			l := slices.Clone(good)
			l[i], l[k] = l[k], l[i]
			if got, e := All(l, text); e != api.ErrForm || len(got) != 0 {
				t.Errorf("%d and %d change places: %s", i, k, shown(got, e))
			}
		}
		twice := slices.Insert(slices.Clone(good), i, good[i])
		if got, e := All(twice, text); e != api.ErrForm || len(got) != 0 {
			t.Errorf("%d twice: %s", i, shown(got, e))
		}
		missing := slices.Delete(slices.Clone(good), i, i+1)
		if got, e := All(missing, text); e != api.OK || len(got) != 8-good[i].Rows {
			t.Errorf("without %d: %s", i, shown(got, e))
		}
	}
}

// P13.2: written out: rows abc, def, l, and tu; how many are written hangs on where those that come and go belong.
func TestChangeWrittenOut(t *testing.T) {
	for _, x := range []struct {
		come, go_ string
		now       string
		many      int
	}{
		{"", "", "abc def l tu", 0},
		{"k", "", "abc defk l tu", 1 + 3},
		{"", "e", "abc df l tu", 1 + 3},
		{"", "d", "abcef l tu", 1 + 3 + 3},
		{"", "a", "bc def l tu", 1 + 3},
		{"", "l", "abc def tu", 1 + 1 + 3},
		{"", "t", "abc def lu", 1 + 2 + 1},
		{"", "u", "abc def l t", 1 + 2},
		{"z", "", "abc def l tuz", 1 + 2},
		{"d", "", "abc Def l tu", 1 + 3 + 3},
		{"e", "", "abc dEf l tu", 1 + 3},
		{"a", "", "Abc def l tu", 1 + 3},
		{"kz", "", "abc defk l tuz", 2 + 3 + 2},
		{"gk", "", "abc defgk l tu", 2 + 3},
		{"", "de", "abcf l tu", 2 + 3 + 3},
		{"", "dl", "abcef tu", 2 + 3 + 3 + 1},
		{"", "def", "abc l tu", 3 + 3 + 3},
		{"", "lt", "abc defu", 2 + 1 + 2 + 3},
		{"", "abcdefltu", "", 9 + 9},
		{"d", "d", "abc def l tu", 2 + 3 + 3},
		{"e", "e", "abc def l tu", 2 + 3},
		{"kk", "", "abc defK l tu", 2 + 3},
		{"g", "d", "abcefg l tu", 2 + 3 + 3},
		{"xl", "lu", "abc def l tx", 4 + 1 + 3 + 2},
	} {
		var more, now []api.Times
		more = append(more, rowsOf(x.come)...)
		for _, y := range rowsOf(x.go_) {
			more = append(more, at(-y.N, y.Row...))
		}
		now = rowsOf(strings.ReplaceAll(x.now, " ", ""))
		got, many, e := Change(Blocks(rowsOf("abcdefltu"), 1), text, more)
		if e != api.OK || many != x.many || !allAlike(got, Blocks(now, 1)) {
			t.Errorf("%s come, %s go: %d; %s", x.come, x.go_, many, shown(got, e))
		}
		if pieces := strings.Fields(x.now); len(got) != len(pieces) {
			t.Errorf("%s come, %s go: %d blocks", x.come, x.go_, len(got))
		}
	}
}

// P13.2: a row ahead of all belongs to the first block: its rows are written, and where its own first row begins one, that is on its own then.
func TestChangeAheadOfAll(t *testing.T) {
	for _, x := range []struct {
		was, come, now string
		many           int
	}{
		{"def", "a", "a def", 1 + 3},
		{"bcdef", "a", "abc def", 1 + 2},
		{"ef", "d", "def", 1 + 2},
		{"lm", "d", "d lm", 1 + 2},
		{"lmt", "ad", "a d lm t", 2 + 2},
		{"l", "az", "a lz", 2 + 1},
	} {
		got, many, e := Change(Blocks(rowsOf(x.was), 1), text, rowsOf(x.come))
		var want []api.Block
		for _, piece := range strings.Fields(x.now) {
			want = append(want, block.Of(rowsOf(piece), 1))
		}
		if e != api.OK || many != x.many || !allAlike(got, want) {
			t.Errorf("%s comes to %s: %s", x.come, x.was, shown(got, many, e))
		}
	}
}

// moves are rows that come, go, or are there 0 times.
func moves(letters string, often ...int) []api.Times {
	var l []api.Times
	for _, x := range rowsOf(letters) {
		for _, n := range often {
			l = append(l, at(n, x.Row...))
		}
	}
	return l
}

// P13.2: each choice of seven rows, with all short lists of rows that come or go.
func TestChangeShortLists(t *testing.T) {
	lists := listsOf(moves("cdeltu", 1, -1), 2)
	for _, l := range someOf(rowsOf("cDelTu")) {
		for _, more := range lists {
			isChange(t, l, text, more)
		}
	}
}

// P13.2: rows there 0 times count, and name their block; so do rows that stand twice, and those that come and go at once.
func TestChangeOfNoneAndTwice(t *testing.T) {
	lists := listsOf(moves("adkl", 0, 1, -1, 2, -2), 2)
	for _, these := range []string{"", "d", "ad", "bdel", "cDEL", "adl", "lm"} {
		for _, more := range lists {
			isChange(t, rowsOf(these), text, more)
		}
	}
	for _, x := range []struct {
		more []api.Times
		many int
	}{
		{[]api.Times{at(0, "tz")}, 1 + 2},
		{[]api.Times{at(0, "tt")}, 1 + 2 + 1},
		{[]api.Times{at(0, "tg"), at(0, "tg")}, 2 + 3},
		{[]api.Times{at(0, "ta"), at(0, "tm"), at(0, "t")}, 3 + 3 + 1},
		{[]api.Times{at(5, "tg"), at(-5, "tg")}, 2 + 3},
	} {
		b := Blocks(rowsOf("abcdefltu"), 1)
		if got, many, e := Change(b, text, x.more); e != api.OK || many != x.many || !allAlike(got, b) {
			t.Errorf("%s: %s", shown(x.more), shown(got, many, e))
		}
	}
}

// P13.2: of no blocks: the Blocks of what comes, and of no more: the same, and 0.
func TestChangeOfNoBlocks(t *testing.T) {
	for _, more := range append(listsOf(moves("cdl", 1, -1, 0), 3), rowsOf("zyxwvutsrqponmlkjihgfedcba"), rowsOf("aaddll")) {
		isChange(t, nil, text, more)
	}
	for _, l := range [][]api.Times{nil, rowsOf("a"), rowsOf("abcdefltu"), rowsOf("D")} {
		b := Blocks(l, 1)
		for _, more := range [][]api.Times{nil, {}} {
			if got, many, e := Change(b, text, more); e != api.OK || many != 0 || !allAlike(got, b) {
				t.Errorf("%s: %s", shown(l), shown(got, many, e))
			}
		}
	}
	if got, many, e := Change(nil, text, []api.Times{at(1, "ta"), at(-1, "tb")}); e != api.ErrUnder || many != 0 || len(got) != 0 {
		t.Errorf("below none of no blocks: %s", shown(got, many, e))
	}
	if got, many, e := Change(nil, nil, []api.Times{at(2), at(3)}); e != api.OK || many != 2 || !allAlike(got, []api.Block{block.Of([]api.Times{at(5)}, 0)}) {
		t.Errorf("a row of no cells: %s", shown(got, many, e))
	}
	if got, many, e := Change(Blocks([]api.Times{at(5)}, 0), nil, []api.Times{at(-5)}); e != api.OK || many != 2 || len(got) != 0 {
		t.Errorf("a row of no cells goes: %s", shown(got, many, e))
	}
}

// P13.2: a row that goes once too often, wherever it stands, and however many come beside it: all stays.
func TestChangeBelowNone(t *testing.T) {
	l := rowsOf("abCdefLtu")
	b := Blocks(l, 1)
	before := deepBlocks(b)
	for _, x := range append(deep(l), at(0, "t"), at(0, "tdd"), at(0, "tz"), at(0, "")) {
		for _, more := range [][]api.Times{
			{at(-x.N-1, x.Row...)},
			{at(1, "tg"), at(-x.N-1, x.Row...), at(1, "tw")},
			{at(-x.N, x.Row...), at(-1, x.Row...)},
			{at(-1, x.Row...), at(-x.N, x.Row...), at(1, "t!"), at(1, "ty")},
			{at(math.MinInt/2, x.Row...)},
		} {
			got, many, e := Change(b, text, more)
			if e != api.ErrUnder || many != 0 || !allAlike(got, before) {
				t.Fatalf("%s is taken: %s", shown(more), shown(got, many, e))
			}
		}
		// Just as often as it is there, it goes.
		isChange(t, l, text, []api.Times{at(-x.N, x.Row...)})
		isChange(t, l, text, []api.Times{at(-x.N-1, x.Row...), at(1, x.Row...)})
	}
	if !allAlike(b, before) {
		t.Error("the blocks are changed")
	}
}

// P13.2: rows of more columns, of each kind and of nothing, some of which come and go.
func TestChangeManyRows(t *testing.T) {
	cols := []api.Col{{Kind: api.KindInt, Null: true}, {Kind: api.KindText}, {Kind: api.KindBool, Null: true}}
	var l []api.Times
	for i := range 150 {
		number := ""
		if i > 20 {
			number = cell.Int(i * 7919 % 41 << (i % 40))
		}
		l, _ = summed(l, []api.Times{at(i%3+1, number, cell.Text(strconv.Itoa(i*31%97)), []string{"", cell.Bool(false), cell.Bool(true)}[i%3])})
	}
	for step := 1; step < 40; step += 3 {
		var more []api.Times
		for i := step; i < len(l); i += step * 2 {
			more = append(more, at(-l[i].N, l[i].Row...), at(step, "", cell.Text("x"+strconv.Itoa(i)), ""))
		}
		slices.Reverse(more)
		isChange(t, l, cols, more)
	}
}

// P13.3: however rows come: each order of six rows, one by one, with others that come and go between.
func TestHoweverRowsCome(t *testing.T) {
	l := rowsOf("cDelTu")
	want := wantBlocks(l, 1)
	orders := [][]api.Times{nil}
	for _, x := range l {
		var next [][]api.Times
		for _, before := range orders {
			for i := range len(before) + 1 {
				next = append(next, slices.Insert(slices.Clone(before), i, x))
			}
		}
		orders = next
	}
	for k, order := range orders {
		var b []api.Block
		guest := rowsOf("adgltz")[k%6]
		for i, x := range order {
			more := []api.Times{x}
			switch i {
			case k % 5:
				more = []api.Times{guest, x}
			case k%5 + 1:
				more = []api.Times{x, at(-1, guest.Row...)}
			}
			now, _, e := Change(b, text, more)
			if e != api.OK {
				t.Fatalf("%s: %s", shown(order), shown(e))
			}
			b = now
		}
		if !allAlike(b, want) {
			t.Fatalf("%s: %s", shown(order), shown(b))
		}
	}
}

// P13.3: however many come at once, blocks are as those that are cut at once; and one by one they go again.
func TestHoweverTheyAreSplit(t *testing.T) {
	l, cols := numbers(0, 299), numberCols()
	for _, at := range []int{1, 7, 50, 300} {
		for _, step := range []int{1, 7, 149} {
			var b []api.Block
			var batch []api.Times
			for i := range l {
				batch = append(batch, l[i*step%300])
				if len(batch) == at || i == len(l)-1 {
					now, _, e := Change(b, cols, batch)
					if e != api.OK {
						t.Fatal(e)
					}
					b, batch = now, nil
				}
			}
			if !allAlike(b, wantBlocks(l, 2)) {
				t.Fatalf("%d at once, by %d: %d blocks", at, step, len(b))
			}
		}
	}
	b, left := Blocks(l, 2), l
	for i := range l {
		x := l[i*11%300]
		now, many, e := Change(b, cols, []api.Times{at(-1, x.Row...)})
		want := wantWritten(wantCut(left), []api.Times{x})
		left = slices.DeleteFunc(slices.Clone(left), func(y api.Times) bool { return slices.Equal(x.Row, y.Row) })
		if e != api.OK || many != want || !allAlike(now, wantBlocks(left, 2)) {
			t.Fatalf("%q goes: %s", x.Row, shown(now, many, e))
		}
		b = now
	}
	if len(b) != 0 {
		t.Errorf("%d blocks are left", len(b))
	}
}

// P13.3: most stay: of many blocks a row that comes or goes changes one, makes one two, or makes two one.
func TestMostStay(t *testing.T) {
	l, cols := numbers(0, 399), numberCols()
	b := Blocks(l, 2)
	if len(b) < 20 {
		t.Fatalf("%d blocks", len(b))
	}
	for i := range 400 {
		for _, x := range []api.Times{at(-1, l[i].Row...), at(1, l[i].Row...), at(1, cell.Int(i), "tx")} {
			now, many, e := Change(b, cols, []api.Times{x})
			front := 0
			for front < min(len(b), len(now)) && alike(b[front], now[front]) {
				front++
			}
			back := 0
			for back < min(len(b), len(now))-front && alike(b[len(b)-1-back], now[len(now)-1-back]) {
				back++
			}
			if e != api.OK || len(b)-front-back > 2 || len(now)-front-back > 2 {
				t.Fatalf("%s: %s; of %d blocks %d stay ahead and %d behind", shown(x), shown(e), len(b), front, back)
			}
			rows := 1
			for _, y := range b[front : len(b)-back] {
				rows += y.Rows
			}
			if many < rows {
				t.Fatalf("%s: %d rows are written, but blocks of %d have changed", shown(x), many, rows)
			}
		}
	}
}

// Blocks that Change isn't asked of, and any rows: nothing panics, nothing beside an error.
func TestWhateverIsGiven(t *testing.T) {
	blocks := []api.Block{{}, block.Of(rowsOf("d"), 1), block.Of(rowsOf("ab"), 1), {Rows: math.MaxInt, N: "\xff"}, {Rows: 1, Cols: []string{"", ""}}}
	rows := []api.Times{{}, at(1, "ta"), at(math.MinInt, "td"), at(math.MaxInt, "ta", "tb"), at(-1, "\xff")}
	for _, l := range listsOf(blocks, 3) {
		for _, cols := range [][]api.Col{nil, text, numberCols()} {
			if got, e := All(l, cols); e != api.OK && (e != api.ErrForm || len(got) != 0) {
				t.Fatalf("%s: %s", shown(l), shown(got, e))
			}
			for _, more := range listsOf(rows, 2) {
				got, many, e := Change(l, cols, more)
				if e != api.OK && (many != 0 || len(got) != 0 && e != api.ErrUnder) {
					t.Fatalf("%s: %s", shown(l, more), shown(got, many, e))
				}
			}
		}
	}
}

// roomy is the list with spare room behind it, and behind each row.
func roomy(l []api.Times) []api.Times {
	room := append(deep(l), at(77, "spare"))
	for i := range room {
		room[i].Row = append(slices.Clone(room[i].Row), "spare")[:len(room[i].Row)]
	}
	return room[:len(l)]
}

// spared tells whether a roomy list is still as it was, with its spare room.
func spared(room, was []api.Times) bool {
	for _, x := range room {
		if x.Row[:len(x.Row)+1][len(x.Row)] != "spare" {
			return false
		}
	}
	return same(room, was) && same(room[:len(room)+1][len(room):], []api.Times{at(77, "spare")})
}

// spoil changes all that can be reached from rows.
func spoil(l []api.Times) {
	for i := range l {
		_ = append(l[i].Row, "more")
		for c := range l[i].Row {
			l[i].Row[c] = "spoilt"
		}
		l[i] = at(99, "spoilt")
	}
	_ = append(l, at(1, "more"))
}

// What is handed in isn't changed, its spare room neither, and answers share nothing with it, nor one with the other.
func TestNothingIsChangedOrShared(t *testing.T) {
	l := rowsOf("abcdefltu")
	room := roomy(l)
	want := Cut(room)
	for range 2 {
		got := Cut(room)
		if !slices.EqualFunc(got, want, same) || !spared(room, l) {
			t.Fatalf("changed: %s", shown(got, room))
		}
		for i := range got {
			spoil(got[i])
			if i+1 < len(got) && !same(got[i+1], want[i+1]) {
				t.Fatalf("piece %d stands in the next", i)
			}
		}
		_ = append(got, l)
	}
	Blocks(room, 1)
	more := []api.Times{at(1, "tg"), at(-1, "tt"), at(1, "t")}
	roomyMore := roomy(more)
	b := append(Blocks(l, 1), api.Block{N: "spare"})
	for i := range b {
		b[i].Cols = append(slices.Clone(b[i].Cols), "spare")[:len(b[i].Cols)]
	}
	was := deepBlocks(b)
	b = b[:len(b)-1]
	cols := append(slices.Clone(text), api.Col{Kind: 'x'})[:1]
	wantNow, wantMany, _ := Change(was[:len(b)], text, more)
	for range 2 {
		all, e := All(b, cols)
		if e != api.OK || !same(all, l) {
			t.Fatalf("changed: %s", shown(all, e))
		}
		spoil(all)
		now, many, e := Change(b, cols, roomyMore)
		if e != api.OK || many != wantMany || !allAlike(now, wantNow) {
			t.Fatalf("changed: %s", shown(now, many, e))
		}
		for i := range now {
			now[i].Cols[0] = "spoilt"
			now[i] = api.Block{}
		}
		_ = append(now, api.Block{})
		as, _, _ := Change(b, cols, nil)
		for i := range as {
			_ = append(as[i].Cols, "more")
			as[i].Cols[0] = "spoilt"
			as[i] = api.Block{}
		}
		Change(b, cols, []api.Times{at(-1, "tz")})
	}
	if !spared(room, l) || !spared(roomyMore, more) || !allAlike(b[:len(was)], was) || cols[:2][1].Kind != 'x' || cols[0] != text[0] {
		t.Fatalf("changed: %s", shown(room, roomyMore, b[:len(was)], cols[:2]))
	}
	for i := range b {
		if b[i].Cols[:2][1] != "spare" {
			t.Fatalf("spare room is %q", b[i].Cols[:2])
		}
	}
}

// Any number of goroutines may call at once.
func TestAtOnce(t *testing.T) {
	l, cols := numbers(0, 60), numberCols()
	more := []api.Times{at(-1, l[3].Row...), at(1, l[20].Row...)}
	b := Blocks(l, 2)
	want, many, _ := Change(b, cols, more)
	var all sync.WaitGroup
	for range 8 {
		all.Go(func() {
			for range 10 {
				got, n, e := Change(b, cols, more)
				rows, f := All(b, cols)
				if e != api.OK || f != api.OK || n != many || !allAlike(got, want) || !same(rows, l) || !allAlike(Blocks(l, 2), b) {
					t.Error("calls at once aren't as one alone")
				}
			}
		})
	}
	all.Wait()
}
