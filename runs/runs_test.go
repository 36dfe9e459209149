package runs

import (
	"encoding/binary"
	"fmt"
	"math"
	"slices"
	"strings"
	"testing"

	"distiller/cell"
	"distiller/vary"
)

// cells are of each kind: nothing, the ends of int, and texts of up to just MaxText (16) bytes.
func cells() []string {
	return []string{
		"", cell.Bool(false), cell.Bool(true), cell.Int(math.MinInt), cell.Int(-1), cell.Int(0), cell.Int(1), cell.Int(math.MaxInt),
		cell.Text(""), cell.Text("a"), cell.Text("b"), cell.Text("ta"), cell.Text("\x00"), cell.Text("\xff\xfe"), cell.Text("grün"),
		cell.Text(strings.Repeat("x", 15)), cell.Text("0123456789abcdef"), cell.Text(strings.Repeat("\x00", 16)),
	}
}

// wrongCells are texts that may not be cells.
func wrongCells() []string {
	return []string{
		"\x00", "\x00\x00", "x", "zz", "T", "\xff", "b", "b\x02", "b\xff", "b\x00\x00", "i", cell.Int(0)[:8], cell.Int(0) + "\x00",
		cell.Text("0123456789abcdefg"), cell.Text(strings.Repeat("x", 127)), cell.Text(strings.Repeat("x", 1<<14)),
		cell.Text(strings.Repeat("x", 1<<20-1)), cell.Text(strings.Repeat("x", 1<<20)), "i" + strings.Repeat("\x00", 1<<20),
	}
}

// listsOf are all lists of up to most of these.
func listsOf(these []string, most int) [][]string {
	l := [][]string{nil}
	longest := l
	for range most {
		var next [][]string
		for _, before := range longest {
			for _, c := range these {
				next = append(next, append(slices.Clip(before), c))
			}
		}
		l = append(l, next...)
		longest = next
	}
	return l
}

// lists are short ones in whatever order, each cell in runs beside each other, and runs whose length takes one byte or two.
func lists() [][]string {
	l := listsOf([]string{"", cell.Bool(true), cell.Text("a"), cell.Text("")}, 5)
	for _, a := range cells() {
		for _, b := range cells() {
			l = append(l, []string{a, b}, []string{a, a, b}, []string{a, b, b, a})
		}
		for _, many := range []int{126, 127, 128, 129, 255, 256, 4096} {
			long := slices.Repeat([]string{a}, many)
			other := slices.Clone(long)
			other[many-1], other[many/2] = cell.Int(5), cell.Text("other")
			l = append(l, long, other)
		}
	}
	return l
}

// wantPrint is what Print is to be: each cell is looked at from its run's beginning, and packed by the library.
func wantPrint(l []string) string {
	var b []byte
	for len(l) > 0 {
		end := slices.IndexFunc(l, func(c string) bool { return c != l[0] })
		if end < 0 {
			end = len(l)
		}
		b = binary.AppendUvarint(b, uint64(len(l[0])))
		b = append(b, l[0]...)
		b = binary.AppendUvarint(b, uint64(end))
		l = l[end:]
	}
	return string(b)
}

// run is a run in whatever form its length may be.
func run(c, often string) string {
	return wantCell(c) + often
}

func wantCell(c string) string {
	return string(binary.AppendUvarint(nil, uint64(len(c)))) + c
}

// brief is the beginning of a list, so that a fault in a long one can be read.
func brief(l []string) string {
	return fmt.Sprintf("%d cells, %.20q", len(l), l[:min(len(l), 8)])
}

// expectRead reads what is there, and holds the cells and what is left.
func expectRead(t *testing.T, s string, want []string, left string) {
	t.Helper()
	tape := &vary.Tape{S: s}
	got := Read(tape, len(want))
	if !slices.Equal(got, want) || tape.Bad || tape.S != left {
		t.Fatalf("Read(%.40q, %d) = %s, leaves %.40q, %v; not %s, %.40q", s, len(want), brief(got), tape.S, tape.Bad, brief(want), left)
	}
}

// expectStopped holds that a tape is Bad, that what was on it stays, and that nothing is read any more.
func expectStopped(t *testing.T, what string, tape *vary.Tape, s string) {
	t.Helper()
	for range 2 {
		if !tape.Bad || tape.S != s {
			t.Fatalf("%s: %.40q: leaves %.40q, %v", what, s, tape.S, tape.Bad)
		}
		if ReadCell(tape) != "" || len(Read(tape, 0)) != 0 || len(Read(tape, 1)) != 0 || tape.Num(math.MaxUint64) != 0 || tape.Text(1) != "" || tape.Done() {
			t.Fatalf("%s: %.40q: something is read behind Bad", what, s)
		}
	}
}

// expectNone reads many cells that aren't there.
func expectNone(t *testing.T, what, s string, many int) {
	t.Helper()
	tape := &vary.Tape{S: s}
	if got := Read(tape, many); len(got) != 0 {
		t.Fatalf("%s: Read(%.40q, %d) = %s", what, s, many, brief(got))
	}
	expectStopped(t, what, tape, s)
}

// expectNoCell reads a cell that isn't there.
func expectNoCell(t *testing.T, what, s string) {
	t.Helper()
	tape := &vary.Tape{S: s}
	if got := ReadCell(tape); got != "" {
		t.Fatalf("%s: ReadCell(%.40q) = %.40q", what, s, got)
	}
	expectStopped(t, what, tape, s)
}

// P4.1: the runs, written out.
func TestRunsAreSideBySide(t *testing.T) {
	yes, no, a := cell.Bool(true), cell.Bool(false), cell.Text("a")
	for _, x := range []struct {
		l, cells []string
		often    []int
	}{
		{nil, nil, nil}, {[]string{}, nil, nil},
		{[]string{a}, []string{a}, []int{1}},
		{[]string{""}, []string{""}, []int{1}},
		{[]string{"", "", ""}, []string{""}, []int{3}},
		{[]string{yes, yes, a}, []string{yes, a}, []int{2, 1}},
		{[]string{a, yes, yes}, []string{a, yes}, []int{1, 2}},
		{[]string{yes, no, yes}, []string{yes, no, yes}, []int{1, 1, 1}},
		{[]string{a, a, "", "", "", a}, []string{a, "", a}, []int{2, 3, 1}},
		{[]string{"", a, "", ""}, []string{"", a, ""}, []int{1, 1, 2}},
		{[]string{"t", "ta", "t", "t"}, []string{"t", "ta", "t"}, []int{1, 1, 2}},
		{[]string{"zz", "zz", "x"}, []string{"zz", "x"}, []int{2, 1}},
	} {
		cells, often := Runs(x.l)
		if !slices.Equal(cells, x.cells) || !slices.Equal(often, x.often) {
			t.Errorf("Runs(%q) = %q, %v, not %q, %v", x.l, cells, often, x.cells, x.often)
		}
	}
}

// P4.3: no two runs side by side are the same, none is empty, and one behind the other they are the cells.
func TestRunsTogetherAreTheCells(t *testing.T) {
	for _, l := range slices.Concat(lists(), listsOf([]string{"", "zz", "\x00"}, 6)) {
		cells, often := Runs(l)
		if len(cells) != len(often) {
			t.Fatalf("Runs of %s: %d and %d", brief(l), len(cells), len(often))
		}
		var whole []string
		for i, c := range cells {
			if often[i] < 1 || i > 0 && c == cells[i-1] {
				t.Fatalf("Runs of %s: %s, one of them %d times %.20q", brief(l), brief(cells), often[i], c)
			}
			whole = append(whole, slices.Repeat([]string{c}, often[i])...)
		}
		if !slices.Equal(whole, l) {
			t.Fatalf("Runs of %s together: %s", brief(l), brief(whole))
		}
	}
}

// P4.1: more cells than may be read have runs, too.
func TestRunsOfVeryMany(t *testing.T) {
	l := slices.Concat(slices.Repeat([]string{"ta"}, 70000), slices.Repeat([]string{""}, 3), []string{"ta"})
	cells, often := Runs(l)
	if !slices.Equal(cells, []string{"ta", "", "ta"}) || !slices.Equal(often, []int{70000, 3, 1}) {
		t.Errorf("%s, %d times", brief(cells), len(often))
	}
	if got := Print(l); got != "\x02ta\xf0\xa2\x04"+"\x00\x03"+"\x02ta\x01" {
		t.Errorf("Print = %.40q", got)
	}
}

// P4.1: of any text, one that may not be a cell too.
func TestCellIsLengthAndCell(t *testing.T) {
	for _, x := range []struct{ c, want string }{
		{"", "\x00"}, {"ta", "\x02ta"}, {"b\x01", "\x02b\x01"}, {"t", "\x01t"}, {"\x00", "\x01\x00"}, {"zz", "\x02zz"},
		{cell.Int(0), "\x09i\x80\x00\x00\x00\x00\x00\x00\x00"}, {cell.Text("0123456789abcdef"), "\x11t0123456789abcdef"},
		{strings.Repeat("x", 127), "\x7f" + strings.Repeat("x", 127)}, {strings.Repeat("x", 128), "\x80\x01" + strings.Repeat("x", 128)},
		{strings.Repeat("x", 1<<14), "\x80\x80\x01" + strings.Repeat("x", 1<<14)},
		{strings.Repeat("x", 1<<20+1), "\x81\x80\x40" + strings.Repeat("x", 1<<20+1)},
	} {
		if got := Cell(x.c); got != x.want {
			t.Errorf("Cell(%.40q) = %.40q, not %.40q", x.c, got, x.want)
		}
	}
	for _, c := range slices.Concat(cells(), wrongCells()) {
		if got := Cell(c); got != wantCell(c) {
			t.Errorf("Cell(%.40q) = %.40q", c, got)
		}
	}
}

// P4.1: the bytes, written out.
func TestPrintIsTheBytes(t *testing.T) {
	yes, a := cell.Bool(true), cell.Text("a")
	for _, x := range []struct {
		l    []string
		want string
	}{
		{nil, ""}, {[]string{}, ""}, {[]string{""}, "\x00\x01"}, {[]string{"", ""}, "\x00\x02"},
		{[]string{yes, yes, a}, "\x02b\x01\x02\x02ta\x01"},
		{[]string{yes, a, yes}, "\x02b\x01\x01\x02ta\x01\x02b\x01\x01"},
		{[]string{a, "", "", a}, "\x02ta\x01\x00\x02\x02ta\x01"},
		{[]string{"zz", "zz", "\x00"}, "\x02zz\x02\x01\x00\x01"},
		{slices.Repeat([]string{a}, 127), "\x02ta\x7f"}, {slices.Repeat([]string{a}, 128), "\x02ta\x80\x01"},
		{slices.Repeat([]string{""}, 4096), "\x00\x80\x20"}, {slices.Repeat([]string{a}, 1<<14), "\x02ta\x80\x80\x01"},
		{[]string{strings.Repeat("x", 128)}, "\x80\x01" + strings.Repeat("x", 128) + "\x01"},
	} {
		if got := Print(x.l); got != x.want {
			t.Errorf("Print of %s: %.40q, not %.40q", brief(x.l), got, x.want)
		}
	}
}

func TestPrintByRuns(t *testing.T) {
	for _, l := range slices.Concat(lists(), listsOf([]string{"", "zz", "\x00"}, 6)) {
		if got, want := Print(l), wantPrint(l); got != want {
			t.Fatalf("Print of %s: %.40q, not %.40q", brief(l), got, want)
		}
	}
}

// P4.2: each cell is read from its Cell, whatever stands behind it.
func TestCellThereAndBack(t *testing.T) {
	for _, c := range cells() {
		for _, behind := range []string{"", "\x00", "\x02ta", "\x80", "\xff\xff"} {
			tape := &vary.Tape{S: Cell(c) + behind}
			if got := ReadCell(tape); got != c || tape.Bad || tape.S != behind {
				t.Fatalf("ReadCell of %q and %q = %q, and leaves %q, %v", c, behind, got, tape.S, tape.Bad)
			}
		}
	}
}

// P4.2: a text that may not be a cell is none, also of just 2^20 bytes, and of one more.
func TestNoCellOfAWrongOne(t *testing.T) {
	for _, c := range wrongCells() {
		expectNoCell(t, "wrong", wantCell(c))
		expectNoCell(t, "wrong", wantCell(c)+"\x01ta")
	}
}

func TestNoCellEndsWithin(t *testing.T) {
	expectNoCell(t, "empty tape", "")
	for _, c := range cells() {
		whole := Cell(c)
		for end := range whole {
			expectNoCell(t, "ends within", whole[:end])
		}
	}
}

// P4.2: a length in another form, or beyond all, makes another form than Cell's.
func TestNoCellOfOtherForms(t *testing.T) {
	for _, s := range []string{
		"\x80\x00", "\x82\x00ta", "\x82\x80\x00ta", "\x80", "\x81", "\xff",
		"\x80\x80\x40t", "\x81\x80\x40t", vary.Print(1 << 32), vary.Print(1<<32+2) + "ta", vary.Print(1<<63) + "ta",
		vary.Print(math.MaxUint64) + "ta", "\xff\xff\xff\xff\xff\xff\xff\xff\xff\x02ta", "\x82\x80\x80\x80\x80\x80\x80\x80\x80\x02ta",
		strings.Repeat("\x80", 20), strings.Repeat("\xff", 20),
	} {
		expectNoCell(t, "another form", s)
		expectNone(t, "another form", s+"\x01", 1)
	}
}

// P4.2, P4.3: each list is read from its Print, whatever stands behind it.
func TestThereAndBack(t *testing.T) {
	for _, l := range lists() {
		for _, behind := range []string{"", "\x00", "\x01", "\x80", "\xff\xff", "\x02ta\x01"} {
			expectRead(t, Print(l)+behind, l, behind)
		}
	}
}

// P4.2: fewer cells than were printed are there, if a run ends with them; what comes next isn't looked at, though it be the same cell.
func TestReadOfFewer(t *testing.T) {
	for _, l := range lists() {
		s := Print(l)
		// All ends are tried of short lists, and of long ones those near either end.
		for many := range len(l) {
			if many > 4 && many < len(l)-2 {
				continue
			}
			if many == 0 || l[many-1] != l[many] {
				expectRead(t, s, l[:many], s[len(wantPrint(l[:many])):])
				continue
			}
			expectNone(t, "a run goes on", s, many)
		}
	}
	expectRead(t, "\x02ta\x02\x02ta\x01", []string{"ta", "ta"}, "\x02ta\x01")
	expectRead(t, "\x02ta\x02\x02ta\x00", []string{"ta", "ta"}, "\x02ta\x00")
	expectRead(t, "\x00\x01\x02zz\x01", []string{""}, "\x02zz\x01")
}

// P4.2: no cells are there on every tape that isn't Bad.
func TestReadOfNone(t *testing.T) {
	for _, s := range []string{"", "\x00", "\x02ta\x01", "\x80", "zz", "\x02ta\x00"} {
		expectRead(t, s, nil, s)
	}
}

// P4.2: fewer than none, and more than there may be, also where their Print is there.
func TestReadOfSoManyMayNotBe(t *testing.T) {
	for _, many := range []int{-1, -2, 4097, 4098, 1 << 20, 1 << 32, 1<<32 + 1, 1 << 62, math.MaxInt, math.MinInt, -1 << 32} {
		for _, s := range []string{"", "\x00\x01", "\x02ta\x01", "\x02ta\x02", Print(slices.Repeat([]string{"ta"}, 4097)), "\x00" + vary.Print(uint64(many))} {
			expectNone(t, "not 0 to 4096", s, many)
		}
	}
	long := slices.Repeat([]string{"ta", ""}, 2048)
	expectRead(t, Print(long), long, "")
	expectRead(t, Print(append(long, "ta")), long, "\x02ta\x01")
}

// P4.2: a tape that ends within has none, and what is there stays.
func TestReadEndsWithin(t *testing.T) {
	for _, l := range lists() {
		whole := Print(l)
		for end := range whole {
			expectNone(t, "ends within", whole[:end], len(l))
		}
		if len(l) < 4096 {
			expectNone(t, "one more", whole, len(l)+1)
		}
	}
}

// P4.2: one that may not be, wherever it stands.
func TestReadOfWrongCells(t *testing.T) {
	for _, c := range wrongCells() {
		expectNone(t, "alone", Print([]string{c}), 1)
		expectNone(t, "twice", Print([]string{c, c}), 2)
		expectNone(t, "first", Print([]string{c, "ta"}), 2)
		expectNone(t, "last", Print([]string{"ta", "", c}), 3)
	}
}

// P4.2, P4.3: another form than Print's is none.
func TestReadOfOtherForms(t *testing.T) {
	a := cell.Text("a")
	for _, x := range []struct {
		what, s string
		many    int
	}{
		{"the same twice", run(a, "\x01") + run(a, "\x01"), 2},
		{"the same twice, of nothing", run("", "\x01") + run("", "\x01"), 2},
		{"the same twice, of more", run(a, "\x02") + run(a, "\x03"), 5},
		{"the same twice, behind others", run("", "\x01") + run(a, "\x01") + run(a, "\x01"), 3},
		{"the same twice, of nothing, behind others", run(a, "\x01") + run("", "\x02") + run("", "\x01"), 4},
		{"a run of none", run(a, "\x00"), 1},
		{"a run of none, of nothing", run("", "\x00"), 1},
		{"a run of none, ahead", run(a, "\x00") + run("", "\x01"), 1},
		{"a run of none, of nothing, ahead", run("", "\x00") + run(a, "\x01"), 1},
		{"a run of none, ahead of its like", run(a, "\x00") + run(a, "\x01"), 1},
		{"a run of none, between", run(a, "\x01") + run("", "\x00") + run(a, "\x01"), 2},
		{"a run of one more", run(a, "\x02"), 1},
		{"a run of one more, at the end", run("", "\x01") + run(a, "\x02"), 2},
		{"a run of one more than may be", run(a, "\x81\x20"), 4096},
		{"a run of very many", run(a, vary.Print(math.MaxUint64)), 3},
		{"a run of so many that they are below 0", run(a, vary.Print(1<<63)), 3},
		{"a run of so many that they wrap round", run(a, vary.Print(1<<32+3)), 3},
		{"a run of so many that they wrap round to none", run(a, "\x80\x80\x80\x80\x80\x80\x80\x80\x80\x02"), 3},
		{"a run of more than 64 bits", run(a, "\x83\x80\x80\x80\x80\x80\x80\x80\x80\x02"), 3},
		{"how often in another form", run(a, "\x81\x00"), 1},
		{"how often in another form, of none", run(a, "\x80\x00"), 1},
		{"how often isn't there", run(a, ""), 1},
		{"how often doesn't end", run(a, "\x80"), 1},
		{"the cell's length in another form", "\x82\x00ta\x01", 1},
		{"the cell's length in another form, of nothing", "\x80\x00\x01", 1},
	} {
		expectNone(t, x.what, x.s, x.many)
	}
}

// shortTexts are all of up to six of the bytes where forms part.
func shortTexts() []string {
	var l []string
	for _, s := range listsOf([]string{"\x00", "\x01", "\x02", "\x03", "b", "t", "\x80"}, 6) {
		l = append(l, strings.Join(s, ""))
	}
	return l
}

// shortPrints are what Print is to be of all lists of so many cells, that take at most six bytes of those where forms part.
func shortPrints(many int) map[string][]string {
	bytes := []string{"\x00", "\x01", "\x02", "\x03", "b", "t", "\x80"}
	these := []string{"", "b\x00", "b\x01", "t"}
	for _, a := range bytes {
		these = append(these, "t"+a)
		for _, b := range bytes {
			these = append(these, "t"+a+b)
		}
	}
	prints := map[string][]string{}
	for _, l := range listsOf(these, many) {
		if s := wantPrint(l); len(l) == many && len(s) <= 6 {
			prints[s] = l
		}
	}
	return prints
}

// P4.2, P4.3: of each text, either it begins with some list's Print, and just that is read, or nothing is.
func TestOneFormAlone(t *testing.T) {
	texts := shortTexts()
	for many := range 4 {
		prints := shortPrints(many)
		found := 0
		for _, s := range texts {
			tape := &vary.Tape{S: s}
			got := Read(tape, many)
			want, is := []string(nil), false
			for end := range len(s) + 1 {
				if l, here := prints[s[:end]]; here {
					want, is = l, true
				}
			}
			left := strings.TrimPrefix(s, wantPrint(want))
			if !slices.Equal(got, want) || tape.Bad == is || tape.S != left {
				t.Fatalf("Read(%q, %d) = %q, leaves %q, %v; not %q, %q, %v", s, many, got, tape.S, tape.Bad, want, left, !is)
			}
			if is {
				found++
			}
		}
		if found == 0 || many > 0 && found == len(texts) {
			t.Errorf("%d of %d texts have %d cells", found, len(texts), many)
		}
	}
}

// P4.2: nothing is read of a tape that is handed in as Bad.
func TestHandedInAsBad(t *testing.T) {
	for _, s := range []string{"", "\x00", "\x00\x01", "\x02ta\x01", "\x80"} {
		expectStopped(t, "handed in as Bad", &vary.Tape{S: s, Bad: true}, s)
		for _, many := range []int{0, 1, 2, -1, 4097} {
			tape := &vary.Tape{S: s, Bad: true}
			if got := Read(tape, many); len(got) != 0 {
				t.Errorf("Read of a bad %q = %q", s, got)
			}
			expectStopped(t, "handed in as Bad", tape, s)
		}
	}
}

// P4.2: lists and cells one behind the other, up to the end.
func TestOneBehindTheOther(t *testing.T) {
	a, b := []string{"ta", "ta", ""}, []string{"", cell.Int(7)}
	tape := &vary.Tape{S: Print(a) + Cell("tb") + Print(b) + Cell("") + vary.Print(300)}
	if got := Read(tape, 3); !slices.Equal(got, a) {
		t.Errorf("first: %q", got)
	}
	if got := ReadCell(tape); got != "tb" {
		t.Errorf("second: %q", got)
	}
	if got := Read(tape, 2); !slices.Equal(got, b) {
		t.Errorf("third: %q", got)
	}
	if got := ReadCell(tape); got != "" || tape.Bad {
		t.Errorf("fourth: %q, %v", got, tape.Bad)
	}
	if got := tape.Num(300); got != 300 || !tape.Done() {
		t.Errorf("fifth: %d, %v", got, tape.Done())
	}
	if got := Read(tape, 0); len(got) != 0 || tape.Bad {
		t.Errorf("none at the end: %q, %v", got, tape.Bad)
	}
	if got := Read(tape, 1); len(got) != 0 || !tape.Bad || tape.S != "" {
		t.Errorf("behind the end: %q, %v", got, tape.Bad)
	}
}

// What is handed in isn't changed, its spare room neither, and answers are new memory.
func TestNothingIsChangedOrShared(t *testing.T) {
	room := []string{"ta", "ta", "", "tb", "tc", "td"}
	was := slices.Clone(room)
	l := room[:4]
	s := Print(l)
	cells, often := Runs(l)
	for i := range cells {
		cells[i], often[i] = "changed", -1
	}
	cells, often = append(cells, "more"), append(often, 5)
	if len(cells) != 4 || len(often) != 4 || !slices.Equal(room, was) {
		t.Errorf("%q has become %q", was, room)
	}
	first := Read(&vary.Tape{S: s}, 4)
	second := Read(&vary.Tape{S: s}, 4)
	for i := range first {
		first[i] = "changed"
	}
	if !slices.Equal(second, was[:4]) || !slices.Equal(room, was) {
		t.Errorf("%q has become %q", was[:4], second)
	}
}

// No call panics: a nil tape has nothing.
func TestNilTape(t *testing.T) {
	if got := ReadCell(nil); got != "" {
		t.Errorf("ReadCell(nil) = %q", got)
	}
	for _, many := range []int{-1, 0, 1, 4097} {
		if got := Read(nil, many); len(got) != 0 {
			t.Errorf("Read(nil, %d) = %q", many, got)
		}
	}
}
