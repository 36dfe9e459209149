package steps

import (
	"encoding/binary"
	"fmt"
	"math"
	"math/big"
	"slices"
	"strings"
	"testing"

	"distiller/cell"
	"distiller/vary"
)

// ends are the numbers at which steps turn: near 0, where a step takes one more byte, and at both ends of int.
func ends() []int {
	l := []int{0, math.MinInt, math.MinInt + 1, math.MinInt + 64, math.MaxInt - 64, math.MaxInt - 1, math.MaxInt}
	for _, k := range []int{0, 1, 6, 7, 13, 20, 27, 31, 32, 34, 41, 48, 55, 62} {
		p := 1 << k
		l = append(l, p-1, p, p+1, -p-1, -p, 1-p)
	}
	return l
}

// numbersOf are all lists of up to most of these numbers.
func numbersOf(these []int, most int) [][]int {
	l := [][]int{nil}
	longest := l
	for range most {
		var next [][]int
		for _, before := range longest {
			for _, n := range these {
				next = append(next, append(slices.Clip(before), n))
			}
		}
		l = append(l, next...)
		longest = next
	}
	return l
}

// numbers are short lists in whatever order, each end beside each, and long ones that rise, fall, stay, and go from end to end.
func numbers() [][]int {
	l := numbersOf([]int{math.MinInt, -65, 0, 64, math.MaxInt}, 4)
	l = append(l, numbersOf(ends(), 2)...)
	for _, many := range []int{126, 127, 128, 129, 4095, 4096} {
		rising, falling, far := make([]int, many), make([]int, many), make([]int, many)
		for i := range many {
			rising[i], falling[i], far[i] = 1000+70*i, -70*i*i, math.MinInt
			if i%2 == 1 {
				far[i] = math.MaxInt - i
			}
		}
		l = append(l, make([]int, many), slices.Repeat([]int{-9}, many), rising, falling, far)
	}
	return l
}

// cellsOf are the numbers' cells, made by the library: the highest bit is turned, so that they stand in order.
func cellsOf(l []int) []string {
	var cells []string
	for _, n := range l {
		cells = append(cells, string(binary.BigEndian.AppendUint64([]byte("i"), uint64(n)^1<<63)))
	}
	return cells
}

// wantPrint is what Print is to be, by numbers without ends that are then brought back, and the library's own packing.
func wantPrint(l []int) string {
	var b []byte
	all := new(big.Int).Lsh(big.NewInt(1), 64)
	ahead := new(big.Int)
	for _, n := range l {
		step := new(big.Int).Sub(big.NewInt(int64(n)), ahead)
		// Mod is never below 0, and of its upper half the number 2^64 less is the step.
		step.Mod(step, all)
		if !step.IsInt64() {
			step.Sub(step, all)
		}
		b = binary.AppendVarint(b, step.Int64())
		ahead.SetInt64(int64(n))
	}
	return string(b)
}

// others are texts that are no numbers' cells: cells of other kinds, and what may not be a cell.
func others() []string {
	return []string{
		"", cell.Bool(false), cell.Bool(true), "t", cell.Text("a"), cell.Text("i"), cell.Text(cell.Int(1)), cell.Text("0123456789abcdef"),
		"\x00", "zz", "7", "\xff", "b", "b\x02", "i", "i\x00", cell.Int(7)[:8], cell.Int(7) + "\x00", cell.Int(7) + cell.Int(8),
		cell.Int(7)[1:], "I" + cell.Int(7)[1:], "b" + cell.Int(7)[1:], "\x00" + cell.Int(7)[1:], "i" + strings.Repeat("\x00", 1<<20),
	}
}

// brief is the beginning of a list, so that a fault in a long one can be read.
func brief(l []string) string {
	return fmt.Sprintf("%d cells, %.20q", len(l), l[:min(len(l), 8)])
}

// expectRead reads what is there, and holds the cells and what is left.
func expectRead(t *testing.T, s string, want []string, left string) {
	t.Helper()
	tape := &vary.Tape{S: s}
	got := Read(tape, len(want))
	if !slices.Equal(got, want) || tape.Bad || tape.S != left {
		t.Fatalf("Read(%.40q, %d) = %s, leaves %.40q, %v; not %s, %.40q", s, len(want), brief(got), tape.S, tape.Bad, brief(want), left)
	}
}

// expectNone reads what isn't there: it is Bad, what is on the tape stays, and nothing is read any more.
func expectNone(t *testing.T, what, s string, many int) {
	t.Helper()
	tape := &vary.Tape{S: s}
	if got := Read(tape, many); len(got) != 0 {
		t.Fatalf("%s: Read(%.40q, %d) = %s", what, s, many, brief(got))
	}
	for range 2 {
		if !tape.Bad || tape.S != s {
			t.Fatalf("%s: Read(%.40q, %d) leaves %.40q, %v", what, s, many, tape.S, tape.Bad)
		}
		if len(Read(tape, 0)) != 0 || len(Read(tape, 1)) != 0 || tape.Num(math.MaxUint64) != 0 || tape.Text(1) != "" || tape.Done() {
			t.Fatalf("%s: Read(%.40q, %d): something is read behind Bad", what, s, many)
		}
	}
}

// P6.1: all are numbers' cells, of none of them too.
func TestMayOfNumbers(t *testing.T) {
	for _, l := range [][]string{nil, {}, {cell.Int(0)}, {cell.Int(100), cell.Int(101), cell.Int(99)}, slices.Repeat([]string{cell.Int(-1)}, 5000)} {
		if !May(l) {
			t.Errorf("May of %s is false", brief(l))
		}
	}
	for _, l := range numbers() {
		if !May(cellsOf(l)) {
			t.Fatalf("May of %s is false", brief(cellsOf(l)))
		}
	}
}

// P6.1: one that is no number's cell is enough, wherever it stands; and such a list has no Print.
func TestMayNotOfOthers(t *testing.T) {
	n := cell.Int(7)
	for _, c := range others() {
		for _, l := range [][]string{
			{c}, {c, c}, {c, n}, {n, c}, {n, c, n}, {c, n, n}, {n, n, c}, {c, n, c},
			append(slices.Repeat([]string{n}, 4096), c), append([]string{c}, slices.Repeat([]string{n}, 4096)...),
		} {
			if May(l) {
				t.Errorf("May of %s is true", brief(l))
			}
			if got := Print(l); got != "" {
				t.Errorf("Print of %s = %.40q", brief(l), got)
			}
		}
	}
}

// P6.1: the bytes, written out.
func TestPrintIsTheBytes(t *testing.T) {
	most := "\xff\xff\xff\xff\xff\xff\xff\xff\xff\x01"
	nearMost := "\xfe\xff\xff\xff\xff\xff\xff\xff\xff\x01"
	for _, x := range []struct {
		l    []int
		want string
	}{
		{nil, ""}, {[]int{}, ""},
		{[]int{0}, "\x00"}, {[]int{1}, "\x02"}, {[]int{-1}, "\x01"}, {[]int{0, 0, 0}, "\x00\x00\x00"}, {[]int{5, 5}, "\x0a\x00"},
		{[]int{100, 101, 99}, "\xc8\x01\x02\x03"}, {[]int{7, 8}, "\x0e\x02"}, {[]int{8, 7}, "\x10\x01"}, {[]int{-3, 3}, "\x05\x0c"},
		{[]int{63, 126}, "\x7e\x7e"}, {[]int{64, 128}, "\x80\x01\x80\x01"}, {[]int{-64, -128}, "\x7f\x7f"}, {[]int{-65, -130}, "\x81\x01\x81\x01"},
		{[]int{1000, 1000, 1000, 1001}, "\xd0\x0f\x00\x00\x02"},
		{[]int{math.MaxInt}, nearMost}, {[]int{math.MinInt}, most},
		{[]int{math.MinInt, math.MaxInt}, most + "\x01"}, {[]int{math.MaxInt, math.MinInt}, nearMost + "\x02"},
		{[]int{math.MinInt, 0}, most + most}, {[]int{0, math.MinInt, 0}, "\x00" + most + most},
		{[]int{-1, math.MaxInt}, "\x01" + most}, {[]int{math.MaxInt, -1}, nearMost + most},
		{[]int{1, math.MinInt}, "\x02" + nearMost}, {[]int{math.MinInt, 1}, most + "\xfd\xff\xff\xff\xff\xff\xff\xff\xff\x01"},
		{[]int{math.MaxInt, math.MaxInt - 1, math.MinInt}, nearMost + "\x01\x04"},
	} {
		if got := Print(cellsOf(x.l)); got != x.want {
			t.Errorf("Print of %v = %q, not %q", x.l, got, x.want)
		}
	}
}

// P6.1: each step is from the one ahead, and wraps round where it is beyond int.
func TestPrintBySteps(t *testing.T) {
	for _, l := range numbers() {
		if got, want := Print(cellsOf(l)), wantPrint(l); got != want {
			t.Fatalf("Print of %s = %.40q, not %.40q", brief(cellsOf(l)), got, want)
		}
	}
}

// P6.1: more numbers than may be read have a Print, too.
func TestPrintOfVeryMany(t *testing.T) {
	l := slices.Repeat([]int{300}, 70000)
	if got := Print(cellsOf(l)); got != "\xd8\x04"+strings.Repeat("\x00", 69999) {
		t.Errorf("Print = %d bytes, %.40q", len(got), got)
	}
}

// P6.1, P6.2: each list is read from its Print, whatever stands behind it.
func TestThereAndBack(t *testing.T) {
	for _, l := range numbers() {
		cells := cellsOf(l)
		for _, behind := range []string{"", "\x00", "\x01", "\x80", "\xff\xff", "abc"} {
			expectRead(t, Print(cells)+behind, cells, behind)
		}
	}
}

// P6.2: over both ends of all numbers, by steps that are written out.
func TestReadOverTheEnds(t *testing.T) {
	most := "\xff\xff\xff\xff\xff\xff\xff\xff\xff\x01"
	nearMost := "\xfe\xff\xff\xff\xff\xff\xff\xff\xff\x01"
	for _, x := range []struct {
		s    string
		want []int
	}{
		{nearMost + "\x02", []int{math.MaxInt, math.MinInt}}, {most + "\x01", []int{math.MinInt, math.MaxInt}},
		{nearMost + "\x04\x03", []int{math.MaxInt, math.MinInt + 1, math.MaxInt}}, {most + most, []int{math.MinInt, 0}},
		{nearMost + nearMost, []int{math.MaxInt, -2}}, {nearMost + nearMost + "\x04", []int{math.MaxInt, -2, 0}},
		{nearMost + most, []int{math.MaxInt, -1}}, {"\x01" + most, []int{-1, math.MaxInt}}, {"\x02" + nearMost, []int{1, math.MinInt}},
		{most + nearMost, []int{math.MinInt, -1}}, {most + most + most, []int{math.MinInt, 0, math.MinInt}},
	} {
		expectRead(t, x.s+"x", cellsOf(x.want), "x")
		if got := Print(cellsOf(x.want)); got != x.s {
			t.Errorf("Print of %v = %q, not %q", x.want, got, x.s)
		}
	}
}

// P6.1: fewer than none, and more than there may be, also where their Print is there.
func TestReadOfSoManyMayNotBe(t *testing.T) {
	long := strings.Repeat("\x00", 5000)
	for _, many := range []int{-1, -2, 4097, 4098, 5000, 1 << 20, 1 << 32, 1<<32 + 1, 1 << 62, math.MaxInt, math.MinInt, math.MinInt + 1, -1 << 32} {
		for _, s := range []string{"", "\x00", "\x02\x02", "\x80", long, Print(cellsOf(slices.Repeat([]int{math.MinInt, 0}, 2500)))} {
			expectNone(t, "not 0 to 4096", s, many)
		}
	}
	expectRead(t, long, slices.Repeat([]string{cell.Int(0)}, 4096), long[4096:])
	expectRead(t, "\x01"+long, slices.Repeat([]string{cell.Int(-1)}, 4096), long[4095:])
}

// P6.1: none have an empty Print, so they are there whatever is on the tape.
func TestReadOfNone(t *testing.T) {
	for _, s := range []string{"", "\x00", "\x02", "\x80", "\x80\x00", "\xff\xff", "zz"} {
		expectRead(t, s, nil, s)
	}
}

// P6.1: a tape that ends within has none, and what is there stays.
func TestReadEndsWithin(t *testing.T) {
	for _, l := range numbers() {
		whole := wantPrint(l)
		// All ends are tried of short ones, and of long ones those near either end.
		for end := range whole {
			if end > 40 && end < len(whole)-20 {
				continue
			}
			expectNone(t, "ends within", whole[:end], len(l))
		}
	}
}

// P6.1: one more than there are, and many more; of fewer the others are left.
func TestReadOfMoreOrFewer(t *testing.T) {
	for _, l := range numbers() {
		whole := wantPrint(l)
		if len(l) < 4096 {
			expectNone(t, "one more", whole, len(l)+1)
			expectNone(t, "as many as there may be", whole, 4096)
		}
		if len(l) > 0 {
			fewer := l[:len(l)-1]
			expectRead(t, whole, cellsOf(fewer), strings.TrimPrefix(whole, wantPrint(fewer)))
		}
	}
}

// P6.1, P6.2: a step in another form than its Print is none, wherever it stands.
func TestReadOfOtherForms(t *testing.T) {
	for _, x := range []struct{ what, step string }{
		{"a last byte of 0", "\x80\x00"}, {"a last byte of 0 behind 1", "\x81\x00"}, {"two bytes of 0", "\x80\x80\x00"},
		{"ten bytes of 0", strings.Repeat("\x80", 9) + "\x00"}, {"eleven bytes of 0", strings.Repeat("\x80", 10) + "\x00"},
		{"a last byte of 0 behind many", strings.Repeat("\xff", 9) + "\x00"}, {"a 65th bit", strings.Repeat("\xff", 9) + "\x02"},
		{"a 65th bit alone", strings.Repeat("\x80", 9) + "\x02"}, {"66 bits", strings.Repeat("\xff", 9) + "\x03"},
		{"70 bits", strings.Repeat("\xff", 9) + "\x7f"}, {"eleven bytes", strings.Repeat("\xff", 10) + "\x01"}, {"eleven bytes for 1", "\x81" + strings.Repeat("\x80", 9) + "\x01"},
		{"no last byte", "\x80"}, {"no last byte of ten", strings.Repeat("\xff", 10)}, {"no last byte of many", strings.Repeat("\x80", 30)},
	} {
		expectNone(t, x.what, x.step, 1)
		expectNone(t, x.what, x.step+x.step, 2)
		expectNone(t, x.what, "\x0e"+x.step, 2)
		expectNone(t, x.what, "\xc8\x01\x02"+x.step, 3)
		expectNone(t, x.what, strings.Repeat("\x02", 4095)+x.step, 4096)
		expectRead(t, "\x0e"+x.step, []string{cell.Int(7)}, x.step)
		if !strings.HasPrefix(x.what, "no last") {
			expectNone(t, x.what, x.step+"\x02", 2)
			expectNone(t, x.what, "\x02"+x.step+"\x02", 3)
		}
	}
}

// shortTexts are all of up to six of the bytes where forms part.
func shortTexts() []string {
	l := []string{""}
	longest := l
	for range 6 {
		var next []string
		for _, s := range longest {
			for _, b := range []string{"\x00", "\x01", "\x02", "\x7f", "\x80", "\x81", "\xff"} {
				next = append(next, s+b)
			}
		}
		l = append(l, next...)
		longest = next
	}
	return l
}

// beginning is the list of many numbers with whose Print s begins, what is behind it, and whether there is one, by the library's own packing.
func beginning(s string, many int) ([]int, string, bool) {
	var l []int
	left := s
	n := int64(0)
	for range many {
		step, size := binary.Varint([]byte(left))
		if size <= 0 {
			return nil, s, false
		}
		n += step
		l = append(l, int(n))
		left = left[size:]
	}
	return l, left, wantPrint(l) == s[:len(s)-len(left)]
}

// P6.2: of each text, either what is read has as its Print just what was taken off, or nothing is, and there is no such list.
func TestOneFormAlone(t *testing.T) {
	texts := shortTexts()
	for many := range 5 {
		found := 0
		for _, s := range texts {
			tape := &vary.Tape{S: s}
			got := Read(tape, many)
			l, left, is := beginning(s, many)
			want := cellsOf(l)
			if !is {
				want, left = nil, s
			}
			if !slices.Equal(got, want) || tape.Bad == is || tape.S != left {
				t.Fatalf("Read(%q, %d) = %q, leaves %q, %v; not %q, %q, %v", s, many, got, tape.S, tape.Bad, want, left, !is)
			}
			if is {
				found++
			}
		}
		if found == 0 || many > 0 && found == len(texts) {
			t.Errorf("%d of %d texts have %d numbers", found, len(texts), many)
		}
	}
}

// P6.1: nothing is read of a tape that is handed in as Bad.
func TestHandedInAsBad(t *testing.T) {
	for _, s := range []string{"", "\x00", "\x02\x02", "\xc8\x01\x02\x03", "\x80"} {
		for _, many := range []int{0, 1, 2, -1, 4096, 4097} {
			tape := &vary.Tape{S: s, Bad: true}
			if got := Read(tape, many); len(got) != 0 || !tape.Bad || tape.S != s {
				t.Errorf("Read of a bad %q = %q, and leaves %q, %v", s, got, tape.S, tape.Bad)
			}
		}
	}
}

// P6.1: lists one behind the other, with another thing between, up to the end: each begins at 0 again.
func TestOneBehindTheOther(t *testing.T) {
	a, b := cellsOf([]int{100, 101, 99}), cellsOf([]int{math.MinInt, math.MaxInt})
	tape := &vary.Tape{S: Print(a) + Print(nil) + vary.Print(300) + Print(b)}
	if got := Read(tape, 3); !slices.Equal(got, a) {
		t.Errorf("first: %q", got)
	}
	if got := Read(tape, 0); len(got) != 0 || tape.Bad {
		t.Errorf("second: %q, %v", got, tape.Bad)
	}
	if got := tape.Num(300); got != 300 {
		t.Errorf("third: %d", got)
	}
	if got := Read(tape, 2); !slices.Equal(got, b) || !tape.Done() {
		t.Errorf("fourth: %q, %v", got, tape.Done())
	}
	if got := Read(tape, 0); len(got) != 0 || tape.Bad {
		t.Errorf("none at the end: %q, %v", got, tape.Bad)
	}
	if got := Read(tape, 1); len(got) != 0 || !tape.Bad || tape.S != "" {
		t.Errorf("behind the end: %q, %v", got, tape.Bad)
	}
}

// What is handed in isn't changed, its spare room neither, and answers are new memory.
func TestNothingIsChangedOrShared(t *testing.T) {
	room := cellsOf([]int{9, -5, 700, 3, 11, 12})
	was := slices.Clone(room)
	for end := range len(room) + 1 {
		l := room[:end]
		s := Print(l)
		May(l)
		first := Read(&vary.Tape{S: s}, end)
		second := Read(&vary.Tape{S: s}, end)
		for i := range first {
			first[i] = "changed"
		}
		first = append(first, "more")
		if !slices.Equal(second, was[:end]) || !slices.Equal(room, was) {
			t.Errorf("%q has become %q, and what is read %q", was, room, second)
		}
	}
}

// No call panics: a nil tape has nothing.
func TestNilTape(t *testing.T) {
	for _, many := range []int{-1, 0, 1, 4097} {
		if got := Read(nil, many); len(got) != 0 {
			t.Errorf("Read(nil, %d) = %q", many, got)
		}
	}
}
