package column

import (
	"encoding/binary"
	"fmt"
	"math"
	"math/bits"
	"slices"
	"strings"
	"testing"

	"distiller/api"
	"distiller/cell"
	"distiller/dict"
	"distiller/gaps"
	"distiller/runs"
	"distiller/steps"
)

// cells are of each kind: nothing, the ends of int, and texts of up to just MaxText (16) bytes.
func cells() []string {
	return []string{
		"", cell.Bool(false), cell.Bool(true), cell.Int(math.MinInt), cell.Int(-1), cell.Int(0), cell.Int(300), cell.Int(math.MaxInt),
		cell.Text(""), cell.Text("a"), cell.Text("\x00"), cell.Text("\xff\xfe"), cell.Text("0123456789abcdef"), cell.Text(strings.Repeat("\x00", 16)),
	}
}

// wrongCells are texts that may not be cells.
func wrongCells() []string {
	return []string{
		"\x00", "\x00\x00", "x", "zz", "T", "\xff", "b", "b\x02", "b\x00\x00", "i", cell.Int(0)[:8], cell.Int(0) + "\x00",
		cell.Text("0123456789abcdefg"), cell.Text(strings.Repeat("x", 127)),
	}
}

// ints are the cells of these numbers.
func ints(l ...int) []string {
	c := make([]string, len(l))
	for i, n := range l {
		c[i] = cell.Int(n)
	}
	return c
}

// byTurns are so many cells, one of these behind the other, and from the first one on again.
func byTurns(many int, these ...string) []string {
	l := make([]string, many)
	for i := range l {
		l[i] = these[i%len(these)]
	}
	return l
}

// spaced are the cells with nothing ahead of each.
func spaced(l []string) []string {
	var with []string
	for _, c := range l {
		with = append(with, "", c)
	}
	return with
}

// listsOf are all lists of up to most of these.
func listsOf(these []string, most int) [][]string {
	l := [][]string{nil}
	longest := l
	for range most {
		var next [][]string
		for _, before := range longest {
			for _, c := range these {
				next = append(next, append(slices.Clip(before), c))
			}
		}
		l = append(l, next...)
		longest = next
	}
	return l
}

// rising are so many numbers' cells, each a step above the one ahead.
func rising(many, step int) []string {
	l := make([]string, many)
	for i := range l {
		l[i] = cell.Int(i * step)
	}
	return l
}

// lists are short ones in whatever order, and longer ones that each of the ways is best of, with nothing between and without.
func lists() [][]string {
	l := listsOf([]string{"", cell.Bool(true), cell.Text("a"), cell.Int(5), cell.Int(-900)}, 5)
	l = append(l, cells(), slices.Repeat(cells(), 3))
	for _, a := range cells() {
		for _, b := range cells() {
			l = append(l, []string{a, b}, []string{a, b, a, a}, byTurns(12, a, b), byTurns(9, a, b, ""))
		}
	}
	for _, many := range []int{13, 127, 128, 129, 255, 256, 257, 2048} {
		for _, these := range [][]string{
			byTurns(many, "ta"), byTurns(many, "ta", "tb"), byTurns(many, "tlong", "tother", "tlong", "t"),
			byTurns(many, ints(7, 1<<40)...), rising(many, 1), rising(many, -1<<50), rising(many, 0),
		} {
			l = append(l, these, spaced(these), append(make([]string, many), these...), slices.Concat(these, []string{""}), slices.Concat(these[1:], []string{"tx"}))
		}
	}
	return append(l, make([]string, 4096), byTurns(4096, "ta"), byTurns(4096, "ta", "tb", ""), rising(4096, 3))
}

// wantRuns is what the way by runs is to be, packed by the library.
func wantRuns(l []string) string {
	var b []byte
	for len(l) > 0 {
		often := 1
		for often < len(l) && l[often] == l[0] {
			often++
		}
		b = binary.AppendUvarint(b, uint64(len(l[0])))
		b = append(b, l[0]...)
		b = binary.AppendUvarint(b, uint64(often))
		l = l[often:]
	}
	return string(b)
}

// wantWords is what the way by a list of the unlike ones is to be: the least place is 0, so its Fold is, and places are what they are.
func wantWords(l []string) string {
	at := map[string]int{}
	for _, c := range l {
		at[c] = 0
	}
	b := binary.AppendUvarint(nil, uint64(len(at)))
	words := slices.Sorted(func(yield func(string) bool) {
		for c := range at {
			if !yield(c) {
				return
			}
		}
	})
	for i, c := range words {
		at[c] = i
		b = binary.AppendUvarint(b, uint64(len(c)))
		b = append(b, c...)
	}
	size := 0
	for most := len(words) - 1; most > 0; most /= 256 {
		size++
	}
	b = append(b, 0, byte(size))
	for _, c := range l {
		var low [8]byte
		binary.LittleEndian.PutUint64(low[:], uint64(at[c]))
		b = append(b, low[:size]...)
	}
	return string(b)
}

// wantSteps is what the way by steps is to be, if all are numbers' cells: a Fold is the library's signed packing.
func wantSteps(l []string) (string, bool) {
	var b []byte
	ahead := uint64(0)
	for _, c := range l {
		if len(c) != 9 || c[0] != 'i' {
			return "", false
		}
		n := binary.BigEndian.Uint64([]byte(c[1:])) ^ 1<<63
		b = binary.AppendVarint(b, int64(n-ahead))
		ahead = n
	}
	return string(b), true
}

// wantBest is what Best, and its bytes, are to be.
func wantBest(l []string) (int, string) {
	way, s := 0, wantRuns(l)
	if words := wantWords(l); len(words) < len(s) {
		way, s = 1, words
	}
	if by, can := wantSteps(l); can && len(by) < len(s) {
		way, s = 2, by
	}
	return way, s
}

// wantGaps is what tells which cells are nothing, and the others.
func wantGaps(l []string) (string, []string) {
	var b []byte
	var some []string
	often, isSome := uint64(0), true
	for _, c := range l {
		if (c != "") != isSome {
			b = binary.AppendUvarint(b, often)
			often, isSome = 0, !isSome
		}
		if c != "" {
			some = append(some, c)
		}
		often++
	}
	return string(binary.AppendUvarint(b, often)), some
}

// wantPrint is what Print is to be.
func wantPrint(l []string) string {
	s, some := wantGaps(l)
	way, by := wantBest(some)
	return s + string(rune(way)) + by
}

// brief is the beginning of a list, so that a fault in a long one can be read.
func brief(l []string) string {
	return fmt.Sprintf("%d of %.20q", len(l), l[:min(len(l), 10)])
}

// expectParse parses what is there.
func expectParse(t *testing.T, s string, want []string) {
	t.Helper()
	if got, good := Parse(s, len(want)); !good || !slices.Equal(got, want) {
		t.Fatalf("Parse(%.60q, %d) = %s, %v, not %s", s, len(want), brief(got), good, brief(want))
	}
}

// expectNone parses what isn't there.
func expectNone(t *testing.T, what, s string, many int) {
	t.Helper()
	if got, good := Parse(s, many); good || len(got) != 0 {
		t.Fatalf("%s: Parse(%.60q, %d) = %s, %v", what, s, many, brief(got), good)
	}
}

// P8.1: written out; of cells that aren't all numbers there are no steps, and of none there are, without a byte.
func TestAsIsTheBytes(t *testing.T) {
	tiny := "i\x80\x00\x00\x00\x00\x00\x00\x05"
	for _, x := range []struct {
		l    []string
		way  int
		want string
		can  bool
	}{
		{nil, 0, "", true}, {nil, 1, "\x00\x00\x00", true}, {nil, 2, "", true}, {[]string{}, 2, "", true},
		{[]string{"ta"}, 0, "\x02ta\x01", true}, {[]string{"ta"}, 1, "\x01\x02ta\x00\x00", true}, {[]string{"ta"}, 2, "", false},
		{[]string{"tb", "ta", "tb"}, 0, "\x02tb\x01\x02ta\x01\x02tb\x01", true},
		{[]string{"tb", "ta", "tb"}, 1, "\x02\x02ta\x02tb\x00\x01\x01\x00\x01", true},
		{[]string{"tb", "ta", "tb"}, 2, "", false},
		{ints(5, 5), 0, "\x09" + tiny + "\x02", true}, {ints(5, 5), 1, "\x01\x09" + tiny + "\x00\x00", true}, {ints(5, 5), 2, "\x0a\x00", true},
		{ints(100, 101, 99), 2, "\xc8\x01\x02\x03", true}, {ints(math.MaxInt, math.MinInt), 2, "\xfe\xff\xff\xff\xff\xff\xff\xff\xff\x01\x02", true},
		{[]string{""}, 0, "\x00\x01", true}, {[]string{""}, 1, "\x01\x00\x00\x00", true}, {[]string{""}, 2, "", false},
		{[]string{tiny, ""}, 2, "", false}, {[]string{"", tiny}, 2, "", false}, {[]string{tiny, "ta"}, 2, "", false}, {[]string{"b\x01", tiny}, 2, "", false},
		{[]string{tiny, tiny[:8]}, 2, "", false}, {[]string{tiny + "\x00"}, 2, "", false}, {[]string{"t" + tiny[1:]}, 2, "", false},
		{[]string{"zz"}, 0, "\x02zz\x01", true}, {[]string{"zz", "zz"}, 1, "\x01\x02zz\x00\x00", true}, {[]string{"zz"}, 2, "", false},
	} {
		if got, can := As(x.l, x.way); got != x.want || can != x.can {
			t.Errorf("As(%q, %d) = %q, %v, not %q, %v", x.l, x.way, got, can, x.want, x.can)
		}
	}
}

// expectAs holds a way against the bytes that are worked out apart, and against its layer's own.
func expectAs(t *testing.T, l []string, way int, want, layer string, may bool) {
	t.Helper()
	if got, can := As(l, way); got != want || got != layer || can != may {
		t.Fatalf("As(%s, %d) = %.60q, %v, not %.60q (%.60q), %v", brief(l), way, got, can, want, layer, may)
	}
}

// P8.1: each way's bytes are those of its layer, whatever the cells are.
func TestAsIsTheLayersPrint(t *testing.T) {
	all := append(lists(), wrongCells(), byTurns(5000, "ta", "tb"), rising(5000, 7))
	for _, c := range wrongCells() {
		all = append(all, []string{c}, []string{cell.Int(0), c}, []string{c, cell.Int(0), c})
	}
	for _, l := range all {
		bySteps, may := wantSteps(l)
		expectAs(t, l, 0, wantRuns(l), runs.Print(l), true)
		expectAs(t, l, 1, wantWords(l), dict.Print(l), true)
		expectAs(t, l, 2, bySteps, steps.Print(l), may)
	}
}

// P8.1: there is no other way, of no cells neither.
func TestAsOfNoSuchWay(t *testing.T) {
	for _, way := range []int{-1, -2, -3, 3, 4, 5, 7, 8, 127, 128, 255, 256, 257, 258, 1 << 16, 1<<16 + 1, 1 << 32, 1<<32 + 1, 1<<32 + 2, math.MaxInt, math.MinInt, math.MinInt + 1, math.MinInt + 2} {
		for _, l := range [][]string{nil, {""}, {"ta"}, ints(7), ints(7, 8), cells()} {
			if got, can := As(l, way); got != "" || can {
				t.Errorf("As(%s, %d) = %q, %v", brief(l), way, got, can)
			}
		}
	}
}

// P8.1: written out: where ways have as many bytes it is the first one, and one byte decides.
func TestBestIsTheFewestBytes(t *testing.T) {
	big := 1 << 62
	for _, x := range []struct {
		what string
		l    []string
		want int
	}{
		{"no cells: no bytes by runs, nor by steps", nil, 0},
		{"one text", []string{"ta"}, 0},
		{"runs 8, words 11", byTurns(2, "ta", "tb"), 0},
		{"runs and words 12", byTurns(3, "ta", "tb"), 0},
		{"runs 16, words 13", byTurns(4, "ta", "tb"), 1},
		{"runs 4, words 5, and no steps though they have no bytes", byTurns(60, "ta"), 0},
		{"longer words", byTurns(6, "tlong", "tother"), 1},
		{"runs 11, steps 1", ints(7), 2},
		{"runs 22, steps 2", ints(7, 8), 2},
		{"runs 11, steps 10", ints(big), 2},
		{"runs and steps 11", ints(big, big), 0},
		{"runs 11, steps 12", ints(big, big, big), 0},
		{"runs 11, steps 10", rising(10, 0), 2},
		{"runs and steps 11", rising(11, 0), 0},
		{"runs 11, steps 12", rising(12, 0), 0},
		{"words 34, steps 32", byTurns(11, ints(100, 10100)...), 2},
		{"words and steps 35", byTurns(12, ints(100, 10100)...), 1},
		{"words 36, steps 38", byTurns(13, ints(100, 10100)...), 1},
		{"all 33", ints(1<<50, 1<<50, 1<<50, 1<<60, 1<<60, 1<<60, 1<<60, 1<<50, 1<<50, 1<<50), 0},
		{"over the ends of all numbers", byTurns(6, ints(math.MaxInt, math.MinInt)...), 2},
		{"a number and a text", []string{cell.Int(7), "ta"}, 0},
		{"numbers, and one text, by turns", byTurns(30, cell.Int(7), cell.Int(8), "ta"), 1},
		{"runs 24, words 17, and no steps of nothing", byTurns(3, cell.Int(7), ""), 1},
		{"nothing alone", []string{"", ""}, 0},
		{"what is no number's cell by one byte", []string{cell.Int(7)[:8]}, 0},
	} {
		if got := Best(x.l); got != x.want {
			t.Errorf("%s: Best(%s) = %d, not %d", x.what, brief(x.l), got, x.want)
		}
	}
}

// P8.1, P8.3: no way that can be so has fewer bytes, and none ahead of it as many.
func TestNoWayHasFewerBytes(t *testing.T) {
	seen := [3]int{}
	for _, l := range append(lists(), wrongCells(), rising(5000, 9)) {
		best := Best(l)
		if best < 0 || best > 2 {
			t.Fatalf("Best(%s) = %d", brief(l), best)
		}
		seen[best]++
		s, can := As(l, best)
		if !can {
			t.Fatalf("Best(%s) = %d, and it can't be so", brief(l), best)
		}
		for way := range 3 {
			other, could := As(l, way)
			if could && (len(other) < len(s) || way < best && len(other) == len(s)) {
				t.Fatalf("Best(%s) = %d by %d bytes, and %d has %d", brief(l), best, len(s), way, len(other))
			}
		}
		if want, _ := wantBest(l); best != want {
			t.Fatalf("Best(%s) = %d, not %d", brief(l), best, want)
		}
	}
	if slices.Min(seen[:]) < 20 {
		t.Errorf("so often a way is best: %v", seen)
	}
}

// P8.1: the bytes, written out.
func TestPrintIsTheBytes(t *testing.T) {
	for _, x := range []struct {
		l    []string
		want string
	}{
		{nil, "\x00\x00"}, {[]string{}, "\x00\x00"}, {[]string{""}, "\x00\x01\x00"}, {[]string{"", "", ""}, "\x00\x03\x00"}, {make([]string, 300), "\x00\xac\x02\x00"},
		{[]string{"ta"}, "\x01\x00\x02ta\x01"}, {[]string{"ta", "ta"}, "\x02\x00\x02ta\x02"},
		{[]string{"ta", "", "ta"}, "\x01\x01\x01\x00\x02ta\x02"}, {[]string{"", "ta"}, "\x00\x01\x01\x00\x02ta\x01"}, {[]string{"ta", ""}, "\x01\x01\x00\x02ta\x01"},
		{[]string{"b\x00", "b\x01", ""}, "\x02\x01\x00\x02b\x00\x01\x02b\x01\x01"},
		{byTurns(3, "tb", "ta"), "\x03\x00\x02tb\x01\x02ta\x01\x02tb\x01"},
		{byTurns(4, "tb", "ta"), "\x04\x01\x02\x02ta\x02tb\x00\x01\x01\x00\x01\x00"},
		{byTurns(6, "tb", "", "ta"), "\x01\x01\x02\x01\x01\x01\x02\x02ta\x02tb\x00\x01\x01\x00\x01\x00"},
		{ints(7, 8), "\x02\x02\x0e\x02"}, {[]string{cell.Int(7), "", cell.Int(8), cell.Int(9)}, "\x01\x01\x02\x02\x0e\x02\x02"},
		{[]string{"", cell.Int(100), cell.Int(101), "", "", cell.Int(99)}, "\x00\x01\x02\x02\x01\x02\xc8\x01\x02\x03"},
		{ints(math.MinInt, math.MaxInt), "\x02\x02\xff\xff\xff\xff\xff\xff\xff\xff\xff\x01\x01"},
		{rising(11, 0), "\x0b\x00\x09i\x80\x00\x00\x00\x00\x00\x00\x00\x0b"}, {rising(10, 0), "\x0a\x02" + strings.Repeat("\x00", 10)},
		{[]string{"zz", "", "zz"}, "\x01\x01\x01\x00\x02zz\x02"},
	} {
		if got := Print(x.l); got != x.want {
			t.Errorf("Print(%s) = %q, not %q", brief(x.l), got, x.want)
		}
	}
}

// P8.1: of whatever cells, more than may be parsed too, what is nothing doesn't come to the way.
func TestPrintByTheBestWay(t *testing.T) {
	for _, l := range append(lists(), wrongCells(), spaced(wrongCells()), spaced(rising(5000, 9)), byTurns(9001, "ta", "", "tb")) {
		got := Print(l)
		if want := wantPrint(l); got != want {
			t.Fatalf("Print(%s) = %.60q, not %.60q", brief(l), got, want)
		}
		is, some := gaps.Split(l)
		way := Best(some)
		if s, _ := As(some, way); got != gaps.Print(is)+string(rune(way))+s {
			t.Fatalf("Print(%s) = %.60q, not by %d %.60q", brief(l), got, way, s)
		}
	}
}

// P8.2, P8.3: each list is there and back.
func TestParseIsThereAndBack(t *testing.T) {
	for _, l := range lists() {
		expectParse(t, wantPrint(l), l)
		expectParse(t, Print(l), l)
	}
}

// P8.2: of no cells there are two bytes, and nothing else.
func TestParseOfNone(t *testing.T) {
	expectParse(t, "\x00\x00", nil)
	for _, s := range []string{
		"", "\x00", "\x00\x01", "\x00\x02", "\x00\x03", "\x00\x01\x00\x00\x00", "\x00\x00\x00", "\x00\x00\x00\x00\x00", "\x01\x00", "\x80\x00\x00", "\x00\x80\x00",
		"\x01\x00\x02ta\x01", "\x00\x01\x00", "\x00\x02\x00", "zz",
	} {
		expectNone(t, "none", s, 0)
	}
}

// P8.2: only nothing: no way has anything, and the first one is told.
func TestParseOfOnlyNothing(t *testing.T) {
	for _, many := range []int{1, 2, 3, 127, 128, 4095, 4096} {
		is := "\x00" + string(binary.AppendUvarint(nil, uint64(many)))
		expectParse(t, is+"\x00", make([]string, many))
		for _, s := range []string{"", "\x01", "\x02", "\x03", "\x01\x00\x00\x00", "\x00\x00", "\x00\x00\x01", "\x00\x00\x02", "\x80\x00", "\x02\x00"} {
			expectNone(t, "only nothing", is+s, many)
		}
		expectNone(t, "a nothing among those that aren't", is[1:]+"\x00\x00"+is[1:], many)
		expectNone(t, "nothing as the one word", is[1:]+"\x01\x01\x00\x00\x00", many)
	}
}

// P8.2: fewer than none, and more than there may be, also where their Print is there.
func TestParseOfSoManyMayNotBe(t *testing.T) {
	texts := []string{"", "\x00\x00", "\x00\x00\x00", "\x01\x00\x02ta\x01", Print(ints(7, 8))}
	for _, many := range []int{4097, 4098, 5000, 1 << 16} {
		texts = append(texts, Print(make([]string, many)), Print(byTurns(many, "ta")), Print(byTurns(many, "ta", "tb")), Print(rising(many, 1)), Print(byTurns(many, "", "ta")))
		expectNone(t, "more than 4096", texts[len(texts)-2], many)
	}
	for _, many := range []int{-1, -2, -4096, 4097, 4098, 5000, 1 << 16, 1 << 20, 1 << 32, 1<<32 + 2, 1 << 62, math.MaxInt, math.MinInt, math.MinInt + 1, math.MinInt + 2, -1 << 32} {
		for _, s := range texts {
			expectNone(t, "not 0 to 4096", s, many)
		}
	}
	for _, l := range [][]string{make([]string, 4096), byTurns(4096, "ta"), byTurns(4096, "ta", "tb"), rising(4096, 1), byTurns(4096, "", "ta"), rising(4095, 1)} {
		expectParse(t, Print(l), l)
	}
}

// P8.2: just s: one byte more, or fewer, wherever it stands, is none.
func TestParseEndsWithinOrGoesOn(t *testing.T) {
	for _, l := range lists() {
		whole := wantPrint(l)
		for _, behind := range []string{"\x00", "\x01", "\x02", "\x80", "\xff\xff", "\x02ta\x01", "\x00\x00"} {
			expectNone(t, "bytes behind", whole+behind, len(l))
		}
		expectNone(t, "once more behind", whole+whole, len(l))
		// All ends are tried of short ones, and of long ones those near either end.
		for end := range whole {
			if end > 40 && end < len(whole)-10 {
				continue
			}
			expectNone(t, "ends within", whole[:end], len(l))
		}
	}
}

// P8.2: another number of cells than there are.
func TestParseOfMoreOrFewer(t *testing.T) {
	for _, l := range lists() {
		whole := wantPrint(l)
		for _, many := range []int{len(l) - 2, len(l) - 1, len(l) + 1, len(l) + 2, 2 * len(l), 0, 1, 4096} {
			if many != len(l) {
				expectNone(t, "more or fewer", whole, many)
			}
		}
	}
}

// P8.2, P8.3: the same cells by another way are none, though each way's own bytes are there.
func TestParseOfAnotherWay(t *testing.T) {
	tried := [3]int{}
	for _, l := range lists() {
		is, some := wantGaps(l)
		best, _ := wantBest(some)
		for way := range 3 {
			s, can := As(some, way)
			if !can || way == best {
				continue
			}
			tried[way]++
			expectNone(t, "another way", is+string(rune(way))+s, len(l))
		}
		_, s := wantBest(some)
		for _, way := range []string{"\x03", "\x04", "\x7f", "\xff\x01", "\x80\x02", "\x81\x02", "\x82\x02", "\x80\x00", "\x81\x00", "\x82\x00", string(rune(best)) + "\x00"} {
			expectNone(t, "no such way", is+way+s, len(l))
		}
	}
	if slices.Min(tried[:]) < 20 {
		t.Errorf("so often a way isn't the best: %v", tried)
	}
}

// P8.2: what has as many bytes by a later way is none there.
func TestParseOfALaterWayWithAsManyBytes(t *testing.T) {
	for _, x := range []struct {
		l    []string
		ways []int
	}{
		{nil, []int{2}}, {byTurns(3, "ta", "tb"), []int{1}}, {ints(1<<62, 1<<62), []int{2}}, {rising(11, 0), []int{2}}, {byTurns(12, ints(100, 10100)...), []int{2}},
		{ints(1<<50, 1<<50, 1<<50, 1<<60, 1<<60, 1<<60, 1<<60, 1<<50, 1<<50, 1<<50), []int{1, 2}},
	} {
		best, s := wantBest(x.l)
		is, _ := wantGaps(x.l)
		expectParse(t, is+string(rune(best))+s, x.l)
		for _, way := range x.ways {
			other, can := As(x.l, way)
			if !can || len(other) != len(s) {
				t.Fatalf("%s: %d bytes, and %d by %d", brief(x.l), len(s), len(other), way)
			}
			expectNone(t, "as many bytes", is+string(rune(way))+other, len(x.l))
		}
	}
}

// P8.2: cells that may not be are none, by either way that could have them.
func TestParseOfWrongCells(t *testing.T) {
	for _, c := range wrongCells() {
		for _, l := range [][]string{{c}, {c, c}, {"", c}, {"ta", c}, {c, "ta"}, {cell.Int(5), c, cell.Int(6)}, byTurns(12, c, "ta"), byTurns(12, "", c, "tb"), byTurns(40, "ta")} {
			if slices.Contains(l, c) {
				expectNone(t, "a wrong cell", Print(l), len(l))
				expectNone(t, "a wrong cell", wantPrint(l), len(l))
				continue
			}
			expectParse(t, Print(l), l)
		}
	}
}

// P8.2, P8.3: another form than Print's is none.
func TestParseOfOtherForms(t *testing.T) {
	for _, x := range []struct {
		what, s string
		many    int
	}{
		{"a nothing among those that aren't, by runs", "\x02\x00\x02ta\x01\x00\x01", 2},
		{"a nothing among those that aren't, by words", "\x04\x01\x02\x00\x02ta\x00\x01\x00\x01\x00\x01", 4},
		{"nothing that is told apart, and stands among them too", "\x01\x01\x01\x00\x02ta\x01\x00\x01", 3},
		{"nothing alone, by runs", "\x01\x00\x00\x01", 1},
		{"a run that is parted", "\x02\x00\x02ta\x01\x02ta\x01", 2},
		{"a run of none", "\x01\x00\x02ta\x00", 1},
		{"a run of more than aren't nothing", "\x01\x01\x00\x02ta\x02", 2},
		{"a run of fewer", "\x02\x00\x02ta\x01", 2},
		{"a run in another form", "\x01\x00\x02ta\x81\x00", 1},
		{"a cell's length in another form", "\x01\x00\x82\x00ta\x01", 1},
		{"words that don't rise", "\x04\x01\x02\x02tb\x02ta\x00\x01\x01\x00\x01\x00", 4},
		{"a word twice", "\x04\x01\x02\x02ta\x02ta\x00\x01\x01\x00\x01\x00", 4},
		{"a word that none is", "\x04\x01\x03\x02ta\x02tb\x02tc\x00\x01\x01\x00\x01\x00", 4},
		{"a place without a word", "\x04\x01\x02\x02ta\x02tb\x00\x01\x01\x02\x01\x00", 4},
		{"places in more bytes", "\x04\x01\x02\x02ta\x02tb\x00\x02\x01\x00\x00\x00\x01\x00\x00\x00", 4},
		{"a step in another form", "\x02\x02\x0e\x82\x00", 2},
		{"a step of more than 64 bits", "\x01\x02\x80\x80\x80\x80\x80\x80\x80\x80\x80\x02", 1},
		{"a step too many", "\x02\x02\x0e\x02\x02", 2},
		{"a step too few", "\x03\x02\x0e\x02", 3},
		{"a nought among what is nothing", "\x01\x00\x01\x02\x0e\x02", 2},
		{"a nought behind what is nothing", "\x02\x00\x02\x0e\x02", 2},
		{"how many in another form", "\x82\x00\x02\x0e\x02", 2},
		{"none ahead in another form", "\x80\x00\x01\x01\x02\x0e", 2},
		{"more yes than asked for", "\x03\x02\x0e\x02", 2},
		{"more no than asked for", "\x01\x03\x02\x0e", 2},
		{"the way in another form", "\x02\x82\x00\x0e\x02", 2},
		{"a way of very many bits", "\x02\x82\x80\x80\x80\x80\x80\x80\x80\x80\x02\x0e\x02", 2},
		{"a way of 64 bits", "\x02\xff\xff\xff\xff\xff\xff\xff\xff\xff\x01\x0e\x02", 2},
		{"a way whose lowest bits are a way", "\x02\x82\x80\x80\x80\x10\x0e\x02", 2},
		{"no way", "\x02", 2},
		{"nothing at all", "", 2},
	} {
		expectNone(t, x.what, x.s, x.many)
	}
}

// shortTexts are all of up to most of these bytes.
func shortTexts(bytes string, most int) []string {
	l := []string{""}
	longest := l
	for range most {
		var next []string
		for _, before := range longest {
			for i := range len(bytes) {
				next = append(next, before+bytes[i:i+1])
			}
		}
		l = append(l, next...)
		longest = next
	}
	return l
}

// stepLists are all lists of so many numbers' cells whose steps are of up to most of these bytes.
func stepLists(bytes string, most, many int) [][]string {
	type numbers struct {
		l     []string
		last  int64
		bytes int
	}
	longest := []numbers{{}}
	for range many {
		var next []numbers
		for _, step := range shortTexts(bytes, most) {
			n, size := binary.Varint([]byte(step))
			if size != len(step) || string(binary.AppendVarint(nil, n)) != step {
				continue
			}
			for _, x := range longest {
				if x.bytes+size <= most {
					next = append(next, numbers{append(slices.Clip(x.l), cell.Int(int(x.last+n))), x.last + n, x.bytes + size})
				}
			}
		}
		longest = next
	}
	var l [][]string
	for _, x := range longest {
		l = append(l, x.l)
	}
	return l
}

// listsInFewBytes are all lists of so many cells whose Print can be of up to seven of these bytes: two are taken already, so there is room for one text alone, or for steps.
func listsInFewBytes(bytes string, many int) [][]string {
	some := make([][][]string, many+1)
	for k := range some {
		some[k] = stepLists(bytes, 5, k)
		if k == 0 {
			continue
		}
		for _, s := range shortTexts(bytes, 2) {
			some[k] = append(some[k], byTurns(k, cell.Text(s)))
		}
	}
	var l [][]string
	for mask := range 1 << many {
		for _, these := range some[bits.OnesCount(uint(mask))] {
			with := make([]string, many)
			used := 0
			for i := range with {
				if mask>>i&1 == 1 {
					with[i] = these[used]
					used++
				}
			}
			l = append(l, with)
		}
	}
	return l
}

// P8.2, P8.3: of each text, either it is some cells' Print, and just these are parsed, or nothing is.
func TestOneFormAlone(t *testing.T) {
	const bytes = "\x00\x01\x02\x03t\x80"
	texts := shortTexts(bytes, 7)
	isText := map[string]bool{}
	for _, s := range texts {
		isText[s] = true
	}
	for many := range 6 {
		prints := map[string][]string{}
		for _, l := range listsInFewBytes(bytes, many) {
			s := wantPrint(l)
			if other, is := prints[s]; is {
				t.Fatalf("%q and %q are both %q", l, other, s)
			}
			if isText[s] {
				prints[s] = l
			}
		}
		if many > 0 && len(prints) < 50 {
			t.Fatalf("%d prints of %d", len(prints), many)
		}
		for _, s := range texts {
			want, is := prints[s]
			if got, good := Parse(s, many); good != is || !slices.Equal(got, want) {
				t.Fatalf("Parse(%q, %d) = %q, %v, not %q, %v", s, many, got, good, want, is)
			}
		}
	}
}

// P8.1: written out: of one kind alone, and nothing where it may be.
func TestKindIsOfThatKindOrNothing(t *testing.T) {
	no, yes, seven, a := cell.Bool(false), cell.Bool(true), cell.Int(7), cell.Text("a")
	for _, x := range []struct {
		l          []string
		kind       byte
		some, null bool
	}{
		{nil, 'b', true, true}, {nil, 'i', true, true}, {nil, 't', true, true}, {[]string{}, 'x', true, true}, {nil, 0, true, true},
		{[]string{no, yes}, 'b', true, true}, {[]string{no, yes}, 'i', false, false}, {[]string{no, yes}, 't', false, false},
		{[]string{seven, cell.Int(-1)}, 'i', true, true}, {[]string{seven}, 'b', false, false}, {[]string{seven}, 't', false, false},
		{[]string{a, "t", a}, 't', true, true}, {[]string{a}, 'b', false, false}, {[]string{a}, 'i', false, false},
		{[]string{""}, 'b', false, true}, {[]string{""}, 'i', false, true}, {[]string{"", ""}, 't', false, true},
		{[]string{seven, "", seven}, 'i', false, true}, {[]string{"", a}, 't', false, true}, {[]string{yes, ""}, 'b', false, true},
		{[]string{seven, "", a}, 'i', false, false}, {[]string{seven, a}, 'i', false, false}, {[]string{a, seven}, 'i', false, false}, {[]string{a, seven, a}, 't', false, false},
		{[]string{""}, 0, false, true}, {[]string{""}, 'x', false, true}, {[]string{"", a}, 0, false, false}, {[]string{a}, 'T', false, false},
		{[]string{"b\x02"}, 'b', false, false}, {[]string{"b"}, 'b', false, false}, {[]string{"i"}, 'i', false, false}, {[]string{seven[:8]}, 'i', false, false},
		{[]string{seven + "\x00"}, 'i', false, false}, {[]string{seven, seven[:8]}, 'i', false, false}, {[]string{seven[:8], seven}, 'i', false, false},
		{[]string{cell.Text("0123456789abcdef")}, 't', true, true}, {[]string{cell.Text("0123456789abcdefg")}, 't', false, false},
		{[]string{"\x00"}, 0, false, false}, {[]string{"", "\x00"}, 0, false, false}, {[]string{"x"}, 'x', false, false}, {[]string{"\xff"}, 255, false, false},
	} {
		if got := Kind(x.l, x.kind, false); got != x.some {
			t.Errorf("Kind(%q, %q, false) = %v", x.l, x.kind, got)
		}
		if got := Kind(x.l, x.kind, true); got != x.null {
			t.Errorf("Kind(%q, %q, true) = %v", x.l, x.kind, got)
		}
	}
}

// P8.1: each cell, and each text that is none, for each byte as a kind; one that doesn't fit is told wherever it stands.
func TestKindOfEachByte(t *testing.T) {
	for i, c := range append(cells(), wrongCells()...) {
		right := i < len(cells())
		for kind := range 256 {
			for _, null := range []bool{false, true} {
				want := c == "" && null || c != "" && right && int(c[0]) == kind
				if got := Kind([]string{c}, byte(kind), null); got != want {
					t.Fatalf("Kind(%.20q, %d, %v) = %v", c, kind, null, got)
				}
			}
		}
		for place := range 5 {
			l := byTurns(5, cell.Int(3))
			l[place] = c
			for _, null := range []bool{false, true} {
				want := c == "" && null || c != "" && right && c[0] == api.KindInt
				if got := Kind(l, api.KindInt, null); got != want {
					t.Fatalf("Kind(%.20q at %d, i, %v) = %v", c, place, null, got)
				}
			}
		}
	}
}

// What is handed in isn't changed, its spare room neither, and answers are new memory.
func TestNothingIsChangedOrShared(t *testing.T) {
	for _, room := range [][]string{
		{"tc", "", "tb", "ta", "tx", ""}, ints(7, 9, 8, 1, 2), byTurns(20, "tb", "ta"), {"", "", "", "", ""}, {"tb", "tb", "tb", "tb", "ta"},
	} {
		was, l := slices.Clone(room), room[:4]
		for range 2 {
			for way := range 4 {
				As(l, way)
			}
			Best(l)
			Kind(l, 't', true)
			got, good := Parse(Print(l), 4)
			if !good || !slices.Equal(got, was[:4]) || !slices.Equal(room, was) {
				t.Fatalf("%q, %v; %q", got, good, room)
			}
			for i := range got {
				got[i] = "changed"
			}
			_ = append(got, "more")
		}
	}
}
