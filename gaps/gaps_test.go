package gaps

import (
	"encoding/binary"
	"fmt"
	"math"
	"slices"
	"strings"
	"testing"

	"distiller/cell"
	"distiller/vary"
)

const no, yes = false, true

// listsOf are all lists of up to most of these.
func listsOf[T any](these []T, most int) [][]T {
	l := [][]T{nil}
	longest := l
	for range most {
		var next [][]T
		for _, before := range longest {
			for _, x := range these {
				next = append(next, append(slices.Clip(before), x))
			}
		}
		l = append(l, next...)
		longest = next
	}
	return l
}

// patterns are all short lists of yes and no, and longer ones where a run's length takes one byte more, at either end and within.
func patterns() [][]bool {
	l := listsOf([]bool{no, yes}, 8)
	for _, many := range []int{126, 127, 128, 129, 255, 256, 257, 4095, 4096} {
		byTurns := make([]bool, many)
		for i := range byTurns {
			byTurns[i] = i%2 == 0
		}
		l = append(l, byTurns, turned(byTurns))
		for _, other := range []bool{no, yes} {
			same := slices.Repeat([]bool{other}, many)
			l = append(l, same)
			for _, places := range [][]int{{0}, {many - 1}, {0, many - 1}, {1}, {many - 2}, {many / 2}, {0, 1, many / 3, many - 1}} {
				l = append(l, except(same, places))
			}
		}
	}
	return l
}

// turned is the list with each yes a no, and each no a yes.
func turned(is []bool) []bool {
	all := make([]int, len(is))
	for i := range all {
		all[i] = i
	}
	return except(is, all)
}

// except is the list turned at these places alone.
func except(is []bool, places []int) []bool {
	l := slices.Clone(is)
	for _, i := range places {
		l[i] = !l[i]
	}
	return l
}

// wantPrint is what Print is to be: each run is looked for from its beginning, and packed by the library.
func wantPrint(is []bool) string {
	var b []byte
	for of := yes; len(b) == 0 || len(is) > 0; of = !of {
		end := slices.Index(is, !of)
		if end < 0 {
			end = len(is)
		}
		b = binary.AppendUvarint(b, uint64(end))
		is = is[end:]
	}
	return string(b)
}

// brief is the beginning of a list, so that a fault in a long one can be read.
func brief[T any](l []T) string {
	return fmt.Sprintf("%d of %.20v", len(l), l[:min(len(l), 10)])
}

// expectRead reads what is there, and holds it and what is left.
func expectRead(t *testing.T, s string, want []bool, left string) {
	t.Helper()
	tape := &vary.Tape{S: s}
	got := Read(tape, len(want))
	if !slices.Equal(got, want) || tape.Bad || tape.S != left {
		t.Fatalf("Read(%.40q, %d) = %s, leaves %.40q, %v; not %s, %.40q", s, len(want), brief(got), tape.S, tape.Bad, brief(want), left)
	}
}

// expectNone reads what isn't there: it is Bad, what is on the tape stays, and nothing is read any more.
func expectNone(t *testing.T, what, s string, many int) {
	t.Helper()
	tape := &vary.Tape{S: s}
	if got := Read(tape, many); len(got) != 0 {
		t.Fatalf("%s: Read(%.40q, %d) = %s", what, s, many, brief(got))
	}
	for range 2 {
		if !tape.Bad || tape.S != s {
			t.Fatalf("%s: Read(%.40q, %d) leaves %.40q, %v", what, s, many, tape.S, tape.Bad)
		}
		if len(Read(tape, 0)) != 0 || len(Read(tape, 1)) != 0 || tape.Num(math.MaxUint64) != 0 || tape.Text(1) != "" || tape.Done() {
			t.Fatalf("%s: Read(%.40q, %d): something is read behind Bad", what, s, many)
		}
	}
}

// P7.1: written out; any text that isn't empty is something, one that may not be a cell too.
func TestSplitIsWhichAreSomething(t *testing.T) {
	for _, x := range []struct {
		l     []string
		is    []bool
		cells []string
	}{
		{nil, nil, nil}, {[]string{}, nil, nil},
		{[]string{""}, []bool{no}, nil}, {[]string{"", "", ""}, []bool{no, no, no}, nil},
		{[]string{"ta"}, []bool{yes}, []string{"ta"}}, {[]string{"tb", "ta"}, []bool{yes, yes}, []string{"tb", "ta"}},
		{[]string{"", "ta", "", ""}, []bool{no, yes, no, no}, []string{"ta"}},
		{[]string{"tb", "", "ta"}, []bool{yes, no, yes}, []string{"tb", "ta"}},
		{[]string{"", "tb", "tb", "", "ta", ""}, []bool{no, yes, yes, no, yes, no}, []string{"tb", "tb", "ta"}},
		{[]string{"t", "", cell.Bool(no), cell.Int(0)}, []bool{yes, no, yes, yes}, []string{"t", cell.Bool(no), cell.Int(0)}},
		{[]string{"\x00", "", " ", "zz", "0", "i", "b\x02"}, []bool{yes, no, yes, yes, yes, yes, yes}, []string{"\x00", " ", "zz", "0", "i", "b\x02"}},
	} {
		is, cells := Split(x.l)
		if !slices.Equal(is, x.is) || !slices.Equal(cells, x.cells) {
			t.Errorf("Split(%q) = %v, %q, not %v, %q", x.l, is, cells, x.is, x.cells)
		}
	}
}

// P7.1: written out; what is put in isn't looked at, so it may be empty, or no cell.
func TestJoinIsTheNextForEachYes(t *testing.T) {
	for _, x := range []struct {
		is      []bool
		l, want []string
	}{
		{nil, nil, nil}, {[]bool{}, []string{}, nil},
		{[]bool{no}, nil, []string{""}}, {[]bool{no, no}, []string{}, []string{"", ""}},
		{[]bool{yes}, []string{"ta"}, []string{"ta"}}, {[]bool{yes, yes}, []string{"tb", "ta"}, []string{"tb", "ta"}},
		{[]bool{no, yes, no, no}, []string{"ta"}, []string{"", "ta", "", ""}},
		{[]bool{yes, no, yes}, []string{"tb", "ta"}, []string{"tb", "", "ta"}},
		{[]bool{yes, no}, []string{""}, []string{"", ""}}, {[]bool{yes, no, yes}, []string{"", "zz"}, []string{"", "", "zz"}},
	} {
		got, good := Join(x.is, x.l)
		if !good || !slices.Equal(got, x.want) {
			t.Errorf("Join(%v, %q) = %q, %v, not %q", x.is, x.l, got, good, x.want)
		}
	}
}

// expectNoJoin joins what has more, or fewer, than there are yes.
func expectNoJoin(t *testing.T, is []bool, l []string) {
	t.Helper()
	if got, good := Join(is, l); good || len(got) != 0 {
		t.Fatalf("Join(%s, %s) = %s, %v", brief(is), brief(l), brief(got), good)
	}
}

// P7.1: one more, and one fewer, and many more, whatever they are.
func TestNoJoinOfMoreOrFewer(t *testing.T) {
	for _, is := range patterns() {
		count := 0
		for _, here := range is {
			if here {
				count++
			}
		}
		for _, c := range []string{"ta", ""} {
			l := slices.Repeat([]string{c}, count+5000)
			for _, many := range []int{0, 1, count - 1, count + 1, count + 2, len(is), len(is) + 1, count + 5000} {
				if many < 0 || many == count {
					continue
				}
				expectNoJoin(t, is, l[:many])
			}
			got, good := Join(is, l[:count])
			if !good || len(got) != len(is) {
				t.Fatalf("Join(%s) of %d = %s, %v", brief(is), count, brief(got), good)
			}
		}
	}
	for _, is := range [][]bool{nil, {}, {no}, {no, no, no}} {
		expectNoJoin(t, is, []string{"ta"})
		expectNoJoin(t, is, []string{""})
	}
}

// P7.3: of all short lists, and of longer ones, the cells are put together as they were, by the bytes in between too.
func TestThereAndBack(t *testing.T) {
	lists := listsOf([]string{"", "ta", "tb", cell.Bool(no), "\x00"}, 6)
	for _, is := range patterns() {
		l := make([]string, len(is))
		for i, here := range is {
			if here {
				l[i] = cell.Int(i)
			}
		}
		lists = append(lists, l)
	}
	for _, l := range lists {
		is, cells := Split(l)
		if len(is) != len(l) || slices.Contains(cells, "") {
			t.Fatalf("Split(%.60q) = %s, %s", l, brief(is), brief(cells))
		}
		tape := &vary.Tape{S: Print(is)}
		got, good := Join(Read(tape, len(l)), cells)
		if !good || !tape.Done() || !slices.Equal(got, l) {
			t.Fatalf("%.60q has become %.60q, %v, %v", l, got, good, tape.Done())
		}
		if got, good = Join(is, cells); !good || !slices.Equal(got, l) {
			t.Fatalf("%.60q has become %.60q, %v", l, got, good)
		}
	}
}

// P7.1: more cells than may be read are split and joined, too.
func TestSplitOfVeryMany(t *testing.T) {
	l := slices.Concat(make([]string, 70000), slices.Repeat([]string{"ta"}, 70001), []string{"", "tb"})
	is, cells := Split(l)
	if len(is) != len(l) || is[69999] || !is[70000] || !is[140000] || is[140001] || !is[140002] || len(cells) != 70002 || cells[70001] != "tb" {
		t.Errorf("%s; %s", brief(is), brief(cells))
	}
	if got, good := Join(is, cells); !good || !slices.Equal(got, l) {
		t.Errorf("Join = %s, %v", brief(got), good)
	}
	if got := Print(is); got != "\x00\xf0\xa2\x04\xf1\xa2\x04\x01\x01" {
		t.Errorf("Print = %.40q", got)
	}
}

// P7.1: the bytes, written out.
func TestPrintIsTheBytes(t *testing.T) {
	many := func(of bool, often int) []bool { return slices.Repeat([]bool{of}, often) }
	for _, x := range []struct {
		is   []bool
		want string
	}{
		{nil, "\x00"}, {[]bool{}, "\x00"},
		{[]bool{yes}, "\x01"}, {[]bool{no}, "\x00\x01"},
		{[]bool{yes, yes}, "\x02"}, {[]bool{no, no}, "\x00\x02"}, {[]bool{yes, no}, "\x01\x01"}, {[]bool{no, yes}, "\x00\x01\x01"},
		{[]bool{no, yes, no, no}, "\x00\x01\x01\x02"}, {[]bool{yes, no, yes, yes}, "\x01\x01\x02"},
		{[]bool{no, yes, yes, no}, "\x00\x01\x02\x01"}, {[]bool{yes, no, no, yes}, "\x01\x02\x01"},
		{many(yes, 127), "\x7f"}, {many(yes, 128), "\x80\x01"}, {many(no, 127), "\x00\x7f"}, {many(no, 128), "\x00\x80\x01"},
		{slices.Concat(many(yes, 128), many(no, 300)), "\x80\x01\xac\x02"}, {slices.Concat(many(no, 128), many(yes, 300)), "\x00\x80\x01\xac\x02"},
		{many(yes, 4096), "\x80\x20"}, {many(no, 4096), "\x00\x80\x20"}, {many(yes, 1<<14), "\x80\x80\x01"},
	} {
		if got := Print(x.is); got != x.want {
			t.Errorf("Print(%s) = %.40q, not %.40q", brief(x.is), got, x.want)
		}
	}
}

func TestPrintByRuns(t *testing.T) {
	for _, is := range patterns() {
		if got, want := Print(is), wantPrint(is); got != want {
			t.Fatalf("Print(%s) = %.40q, not %.40q", brief(is), got, want)
		}
	}
}

// P7.2: each list is read from its Print, whatever stands behind it.
func TestReadIsThereAndBack(t *testing.T) {
	for _, is := range patterns() {
		for _, behind := range []string{"", "\x00", "\x01", "\x00\x01", "\x80", "\xff\xff", "abc"} {
			expectRead(t, wantPrint(is)+behind, is, behind)
		}
	}
}

// P7.2: of none there is a Print, so a tape that is empty, or has another number first, has none.
func TestReadOfNone(t *testing.T) {
	for _, left := range []string{"", "\x00", "\x01", "\x80", "zz"} {
		expectRead(t, "\x00"+left, nil, left)
	}
	for _, s := range []string{"", "\x01", "\x02", "\x7f", "\x80", "\x80\x00", "\x80\x01", "\xff\xff", "\x01\x00", "zz"} {
		expectNone(t, "none", s, 0)
	}
}

// P7.2: fewer than none, and more than there may be, also where their Print is there.
func TestReadOfSoManyMayNotBe(t *testing.T) {
	byTurns := "\x00" + strings.Repeat("\x01", 5000)
	for _, many := range []int{-1, -2, 4097, 4098, 5000, 1 << 20, 1 << 32, 1<<32 + 1, 1 << 62, math.MaxInt, math.MinInt, math.MinInt + 1, -1 << 32} {
		for _, s := range []string{
			"", "\x00", "\x01", "\x00\x01", "\x80", "\x81\x20", "\x00\x81\x20", "\x82\x20", "\x80\x20\x01", "\x80\x20\x02", byTurns, byTurns[1:],
			vary.Print(uint64(many)), "\x00" + vary.Print(uint64(many)),
		} {
			expectNone(t, "not 0 to 4096", s, many)
		}
	}
	expectRead(t, "\x80\x20\x01", slices.Repeat([]bool{yes}, 4096), "\x01")
	expectRead(t, "\x00\x80\x20\x01", slices.Repeat([]bool{no}, 4096), "\x01")
	expectRead(t, byTurns, slices.Repeat([]bool{no, yes}, 2048), byTurns[4097:])
	expectRead(t, byTurns[1:], slices.Repeat([]bool{yes, no}, 2048), byTurns[4097:])
}

// P7.2: a tape that ends within has none, and what is there stays.
func TestReadEndsWithin(t *testing.T) {
	for _, is := range patterns() {
		whole := wantPrint(is)
		// All ends are tried of short ones, and of long ones those near either end.
		for end := range whole {
			if end > 40 && end < len(whole)-20 {
				continue
			}
			expectNone(t, "ends within", whole[:end], len(is))
		}
	}
}

// P7.2: one more than asked for is none, if it goes on with a run that began; what begins behind stays.
func TestReadOfMoreOrFewer(t *testing.T) {
	for _, is := range patterns() {
		whole := wantPrint(is)
		if len(is) < 4096 {
			expectNone(t, "one more is asked for", whole, len(is)+1)
			expectNone(t, "as many as there may be are asked for", whole, 4096)
		}
		// All ends are tried of short lists, and of long ones those near either end.
		for many := range len(is) {
			if many > 4 && many < len(is)-3 {
				continue
			}
			fewer := wantPrint(is[:many])
			goesOn := many > 0 && is[many-1] == is[many] || many == 0 && is[many]
			if goesOn {
				expectNone(t, "a run goes on", whole, many)
				continue
			}
			expectRead(t, whole, is[:many], strings.TrimPrefix(whole, fewer))
		}
	}
}

// P7.2, P7.3: another form than Print's is none.
func TestReadOfOtherForms(t *testing.T) {
	for _, x := range []struct {
		what, s string
		many    int
	}{
		{"a nought behind the first number", "\x01\x00\x03", 4},
		{"a nought behind a first one of 0", "\x00\x00\x04", 4},
		{"a nought behind a first one of 0, alone", "\x00\x00", 1},
		{"two noughts behind the first number", "\x01\x00\x00\x03", 4},
		{"a nought between", "\x01\x02\x00\x01", 4},
		{"a nought between, of no", "\x00\x01\x01\x00\x02", 4},
		{"a nought ahead of the last one", "\x01\x01\x01\x00\x01", 4},
		{"a nought at the end", "\x03\x00", 4},
		{"noughts alone", strings.Repeat("\x00", 50), 4},
		{"one yes more than asked for", "\x05", 4},
		{"one yes more than asked for, behind no", "\x00\x03\x02", 4},
		{"one yes more than asked for, of many", "\x00\x01\x80\x20", 4096},
		{"one no more than asked for", "\x00\x05", 4},
		{"one no more than asked for, behind yes", "\x03\x02", 4},
		{"one no more than asked for, behind both", "\x00\x01\x02\x02", 4},
		{"one yes more than may be", "\x81\x20", 4096},
		{"one no more than may be", "\x00\x81\x20", 4096},
		{"one where there is none", "\x01", 0},
		{"very many", vary.Print(math.MaxUint64), 4},
		{"very many, of no", "\x00" + vary.Print(math.MaxUint64), 4},
		{"so many that they are below 0", vary.Print(1 << 63), 4},
		{"so many that they are below 0, behind some", "\x01" + vary.Print(1<<63), 4},
		{"so many that they wrap round", "\x01" + vary.Print(1<<32+3), 4},
		{"so many that they wrap round at the end", "\x05" + vary.Print(math.MaxUint64), 4},
		{"so many that they wrap round to as many, behind one too many", "\x05" + vary.Print(math.MaxUint64) + "\x00", 4},
		{"more than 64 bits", "\x84\x80\x80\x80\x80\x80\x80\x80\x80\x02", 4},
		{"more than 64 bits, of no", "\x01\x83\x80\x80\x80\x80\x80\x80\x80\x80\x02", 4},
		{"the first one in another form", "\x84\x00", 4},
		{"a first one of 0 in another form", "\x80\x00\x04", 4},
		{"none in another form", "\x80\x00", 0},
		{"a later one in another form", "\x01\x83\x00", 4},
		{"a later one of 0 in another form", "\x01\x80\x00\x03", 4},
		{"one that doesn't end", "\x80", 4},
		{"a later one that doesn't end", "\x01\x83", 4},
		{"a later one isn't there", "\x01", 4},
	} {
		expectNone(t, x.what, x.s, x.many)
		if !strings.HasSuffix(x.what, "isn't there") && !strings.HasSuffix(x.what, "doesn't end") {
			expectNone(t, x.what, x.s+"\x01", x.many)
		}
	}
}

// shortTexts are all of up to six of the bytes where forms part.
func shortTexts() []string {
	var l []string
	for _, s := range listsOf([]string{"\x00", "\x01", "\x02", "\x03", "\x04", "\x7f", "\x80"}, 6) {
		l = append(l, strings.Join(s, ""))
	}
	return l
}

// P7.2, P7.3: of each text, either it begins with some list's Print, and just that is read, or nothing is.
func TestOneFormAlone(t *testing.T) {
	texts := shortTexts()
	for many := range 6 {
		prints := map[string][]bool{}
		for _, is := range listsOf([]bool{no, yes}, many) {
			if len(is) == many {
				prints[wantPrint(is)] = is
			}
		}
		if len(prints) != 1<<many {
			t.Errorf("%d lists of %d have %d prints", 1<<many, many, len(prints))
		}
		for _, s := range texts {
			want, left, is := []bool(nil), s, false
			for end := range len(s) + 1 {
				if l, here := prints[s[:end]]; here {
					want, left, is = l, s[end:], true
				}
			}
			tape := &vary.Tape{S: s}
			if got := Read(tape, many); !slices.Equal(got, want) || tape.Bad == is || tape.S != left {
				t.Fatalf("Read(%q, %d) = %v, leaves %q, %v; not %v, %q, %v", s, many, got, tape.S, tape.Bad, want, left, !is)
			}
		}
	}
}

// P7.2: nothing is read of a tape that is handed in as Bad.
func TestHandedInAsBad(t *testing.T) {
	for _, s := range []string{"", "\x00", "\x01", "\x02", "\x00\x01", "\x80"} {
		for _, many := range []int{0, 1, 2, -1, 4096, 4097} {
			tape := &vary.Tape{S: s, Bad: true}
			if got := Read(tape, many); len(got) != 0 || !tape.Bad || tape.S != s {
				t.Errorf("Read of a bad %q = %v, and leaves %q, %v", s, got, tape.S, tape.Bad)
			}
		}
	}
}

// P7.2: lists one behind the other, with another thing between, up to the end: each begins with yes again.
func TestOneBehindTheOther(t *testing.T) {
	a, b := []bool{yes, no}, []bool{no, no, yes}
	tape := &vary.Tape{S: Print(a) + Print(b) + vary.Print(300) + Print(nil) + Print(a)}
	if got := Read(tape, 2); !slices.Equal(got, a) {
		t.Errorf("first: %v", got)
	}
	if got := Read(tape, 3); !slices.Equal(got, b) {
		t.Errorf("second: %v", got)
	}
	if got := tape.Num(300); got != 300 {
		t.Errorf("third: %d", got)
	}
	if got := Read(tape, 0); len(got) != 0 || tape.Bad {
		t.Errorf("fourth: %v, %v", got, tape.Bad)
	}
	if got := Read(tape, 2); !slices.Equal(got, a) || !tape.Done() {
		t.Errorf("fifth: %v, %v", got, tape.Done())
	}
	if got := Read(tape, 0); len(got) != 0 || !tape.Bad || tape.S != "" {
		t.Errorf("behind the end: %v, %v", got, tape.Bad)
	}
}

// What is handed in isn't changed, its spare room neither, and answers are new memory.
func TestNothingIsChangedOrShared(t *testing.T) {
	roomL, roomIs, roomC := []string{"ta", "", "tb", "tc", "td"}, []bool{yes, no, yes, yes, yes}, []string{"ta", "tb", "tc", "td"}
	wasL, wasIs, wasC := slices.Clone(roomL), slices.Clone(roomIs), slices.Clone(roomC)
	for range 2 {
		is, cells := Split(roomL[:3])
		joined, good := Join(roomIs[:3], roomC[:2])
		read := Read(&vary.Tape{S: Print(roomIs[:3])}, 3)
		if !slices.Equal(is, wasIs[:3]) || !slices.Equal(cells, wasC[:2]) || !slices.Equal(joined, wasL[:3]) || !good || !slices.Equal(read, wasIs[:3]) {
			t.Errorf("%v, %q; %q, %v; %v", is, cells, joined, good, read)
		}
		for i := range 3 {
			is[i], joined[i], read[i] = !is[i], "changed", !read[i]
		}
		cells[0], cells[1] = "changed", "changed"
		_ = append(is, no)
		_ = append(cells, "more")
		_ = append(joined, "more")
		_ = append(read, no)
		if !slices.Equal(roomL, wasL) || !slices.Equal(roomIs, wasIs) || !slices.Equal(roomC, wasC) {
			t.Errorf("%q, %v, %q", roomL, roomIs, roomC)
		}
	}
}

// With all, and with none, of the cells something, what Join and Split answer is new memory as well.
func TestAllOrNoneIsNewMemory(t *testing.T) {
	l := []string{"ta", "tb"}
	_, cells := Split(l)
	joined, _ := Join([]bool{yes, yes}, l)
	cells[0], joined[1] = "changed", "changed"
	if !slices.Equal(l, []string{"ta", "tb"}) {
		t.Errorf("%q", l)
	}
	none := []string{"", ""}
	nothing, _ := Join([]bool{no, no}, nil)
	Split(none)
	nothing[0] = "changed"
	if !slices.Equal(none, []string{"", ""}) {
		t.Errorf("%q", none)
	}
}

// No call panics: a nil tape has nothing.
func TestNilTape(t *testing.T) {
	for _, many := range []int{-1, 0, 1, 4097} {
		if got := Read(nil, many); len(got) != 0 {
			t.Errorf("Read(nil, %d) = %v", many, got)
		}
	}
}
