package vary

import (
	"encoding/binary"
	"math"
	"slices"
	"strings"
	"testing"
)

// numbers are rising: the ends, and around each power of two its neighbours, where the bytes of a number grow.
func numbers() []uint64 {
	l := []uint64{0, math.MaxUint64, math.MaxUint64 - 1, 300, 0x0102030405060708, 0xfedcba9876543210}
	for bit := range 64 {
		p := uint64(1) << bit
		l = append(l, p-1, p, p+1)
	}
	slices.Sort(l)
	return slices.Compact(l)
}

// signed are the ends of int, and on both sides of 0 each power of two with its neighbours.
func signed() []int {
	l := []int{math.MinInt, math.MinInt + 1, math.MaxInt, math.MaxInt - 1, 0}
	for bit := range 63 {
		p := 1 << bit
		l = append(l, p-1, p, p+1, 1-p, -p, -p-1)
	}
	slices.Sort(l)
	return slices.Compact(l)
}

// expect holds a tape against what is to be left on it.
func expect(t *testing.T, what string, tape *Tape, left string, bad bool) {
	t.Helper()
	if tape.S != left || tape.Bad != bad {
		t.Errorf("%s: the tape is %q, %v, not %q, %v", what, tape.S, tape.Bad, left, bad)
	}
}

// expectStopped reads on in each way, also what stands there: nothing comes, and nothing changes.
func expectStopped(t *testing.T, what string, tape *Tape) {
	t.Helper()
	left := tape.S
	for range 2 {
		if n := tape.Num(math.MaxUint64); n != 0 {
			t.Errorf("%s: Num = %d behind Bad", what, n)
		}
		if n := tape.Int(); n != 0 {
			t.Errorf("%s: Int = %d behind Bad", what, n)
		}
		for _, n := range []uint64{0, 1, uint64(len(left)), math.MaxUint64} {
			if s := tape.Text(n); s != "" {
				t.Errorf("%s: Text(%d) = %q behind Bad", what, n, s)
			}
		}
		if tape.Done() {
			t.Errorf("%s: Done behind Bad", what)
		}
	}
	expect(t, what+", read on", tape, left, true)
}

// P2.1: the bytes, written out.
func TestPrintIsTheBytes(t *testing.T) {
	for _, x := range []struct {
		n    uint64
		want string
	}{
		{0, "\x00"}, {1, "\x01"}, {126, "\x7e"}, {127, "\x7f"},
		{128, "\x80\x01"}, {129, "\x81\x01"}, {255, "\xff\x01"}, {256, "\x80\x02"}, {300, "\xac\x02"},
		{1<<14 - 1, "\xff\x7f"}, {1 << 14, "\x80\x80\x01"}, {1<<14 + 1, "\x81\x80\x01"},
		{1<<21 - 1, "\xff\xff\x7f"}, {1 << 21, "\x80\x80\x80\x01"},
		{0x0102030405060708, "\x88\x8e\x98\xa8\xc0\xe0\x80\x81\x01"},
		{1<<63 - 1, "\xff\xff\xff\xff\xff\xff\xff\xff\x7f"},
		{1 << 63, "\x80\x80\x80\x80\x80\x80\x80\x80\x80\x01"},
		{1<<64 - 1, "\xff\xff\xff\xff\xff\xff\xff\xff\xff\x01"},
	} {
		if got := Print(x.n); got != x.want {
			t.Errorf("Print(%d) = %q, not %q", x.n, got, x.want)
		}
	}
}

// P2.1: what the library's own packing of such numbers makes, so that it hangs on no few numbers.
func TestPrintAsTheLibrary(t *testing.T) {
	for _, n := range numbers() {
		if got, want := Print(n), string(binary.AppendUvarint(nil, n)); got != want {
			t.Errorf("Print(%d) = %q, not %q", n, got, want)
		}
	}
}

// P2.1: k bytes have 7 k bits, and no byte more is taken.
func TestPrintTakesAsFewBytes(t *testing.T) {
	for k := 1; k <= 9; k++ {
		most := uint64(1)<<(7*k) - 1
		if got := len(Print(most)); got != k {
			t.Errorf("Print(%d) has %d bytes, not %d", most, got, k)
		}
		if got := len(Print(most + 1)); got != k+1 {
			t.Errorf("Print(%d) has %d bytes, not %d", most+1, got, k+1)
		}
	}
}

func TestFoldIsTheNumber(t *testing.T) {
	for _, x := range []struct {
		n    int
		want uint64
	}{
		{0, 0}, {-1, 1}, {1, 2}, {-2, 3}, {2, 4}, {-3, 5}, {3, 6}, {-64, 127}, {64, 128},
		{math.MaxInt, math.MaxUint64 - 1}, {math.MinInt, math.MaxUint64},
		{math.MaxInt - 1, math.MaxUint64 - 3}, {math.MinInt + 1, math.MaxUint64 - 2},
		{1 << 62, 1 << 63}, {-1 << 62, 1<<63 - 1},
	} {
		if got := Fold(x.n); got != x.want {
			t.Errorf("Fold(%d) = %d, not %d", x.n, got, x.want)
		}
		if got := Open(x.want); got != x.n {
			t.Errorf("Open(%d) = %d, not %d", x.want, got, x.n)
		}
	}
}

// P2.1: each of all 64 bits is the Fold of one number.
func TestFoldAndOpen(t *testing.T) {
	for _, n := range signed() {
		if got := Open(Fold(n)); got != n {
			t.Errorf("Open(Fold(%d)) = %d", n, got)
		}
		if got, want := Print(Fold(n)), string(binary.AppendVarint(nil, int64(n))); got != want {
			t.Errorf("Print(Fold(%d)) = %q, not %q", n, got, want)
		}
	}
	for _, u := range numbers() {
		if got := Fold(Open(u)); got != u {
			t.Errorf("Fold(Open(%d)) = %d", u, got)
		}
	}
}

// P2.2, P2.3: each number is read from its Print, whatever stands behind it.
func TestNumIsThereAndBack(t *testing.T) {
	for _, n := range numbers() {
		for _, behind := range []string{"", "\x00", "\x01", "\x7f", "\x80", "\xff\xff", "abc"} {
			tape := &Tape{S: Print(n) + behind}
			if got := tape.Num(math.MaxUint64); got != n {
				t.Errorf("Num of Print(%d) = %d", n, got)
			}
			expect(t, "Num of what is there", tape, behind, false)
		}
	}
}

// P2.2: the most that is allowed is, one more isn't.
func TestNumIsAtMostMost(t *testing.T) {
	for _, n := range numbers() {
		s := Print(n) + "x"
		tape := &Tape{S: s}
		if got := tape.Num(n); got != n {
			t.Errorf("Num(%d) = %d", n, got)
		}
		expect(t, "Num of just the most", tape, "x", false)
		if n == 0 {
			continue
		}
		for _, most := range []uint64{n - 1, n / 2, 0} {
			tape = &Tape{S: s}
			if got := tape.Num(most); got != 0 {
				t.Errorf("Num(%d) of %d = %d", most, n, got)
			}
			expect(t, "Num of more than the most", tape, s, true)
			expectStopped(t, "Num of more than the most", tape)
		}
	}
}

// P2.2: a text that ends within a number has none, and what is there stays.
func TestNumEndsWithin(t *testing.T) {
	for _, n := range numbers() {
		whole := Print(n)
		for end := range whole {
			s := whole[:end]
			tape := &Tape{S: s}
			if got := tape.Num(math.MaxUint64); got != 0 {
				t.Errorf("Num of %q = %d", s, got)
			}
			expect(t, "Num that ends within", tape, s, true)
			expectStopped(t, "Num that ends within", tape)
		}
	}
}

// wrongForms are no number's Print, nor have they one at their beginning.
func wrongForms() []string {
	l := []string{
		"", "\x80", "\xff", "\x80\x80", "\x80\x00", "\x81\x00", "\xff\x00", "\x80\x80\x00", "\xff\x80\x00", "\xff\xff\x00",
		"\x80\x00\x05", "\x80\x80\x80\x80\x80\x00abc",
		strings.Repeat("\x80", 10) + "\x01", strings.Repeat("\xff", 10) + "\x01", strings.Repeat("\x80", 10) + "\x00",
		strings.Repeat("\x80", 11) + "\x01", strings.Repeat("\x80", 1000) + "\x01",
		strings.Repeat("\x80", 64) + "\x00", strings.Repeat("\xff", 1<<16),
	}
	for last := range 256 {
		if last != 1 {
			l = append(l, strings.Repeat("\xff", 9)+string([]byte{byte(last)}), strings.Repeat("\x80", 9)+string([]byte{byte(last)}))
		}
	}
	for size := range 9 {
		l = append(l, strings.Repeat("\x80", size+1)+"\x00", strings.Repeat("\xff", size+1)+"\x00")
	}
	return l
}

// P2.2, P2.3: a number in another form than its Print, one of more than 64 bits, one that isn't ended.
func TestNumOfOtherForms(t *testing.T) {
	for _, s := range wrongForms() {
		for _, behind := range []string{"", "\x01"} {
			if behind != "" && (s == "" || s[len(s)-1] >= 0x80) {
				continue
			}
			tape := &Tape{S: s + behind}
			if got := tape.Num(math.MaxUint64); got != 0 {
				t.Errorf("Num of %q = %d", s, got)
			}
			expect(t, "Num of another form", tape, s+behind, true)
			expectStopped(t, "Num of another form", tape)
			tape = &Tape{S: s + behind}
			if got := tape.Int(); got != 0 {
				t.Errorf("Int of %q = %d", s, got)
			}
			expect(t, "Int of another form", tape, s+behind, true)
			expectStopped(t, "Int of another form", tape)
		}
	}
}

// shortTexts are all of up to two bytes, and all of up to five of the bytes where forms part.
func shortTexts() []string {
	l := []string{""}
	for a := range 256 {
		l = append(l, string([]byte{byte(a)}))
		for b := range 256 {
			l = append(l, string([]byte{byte(a), byte(b)}))
		}
	}
	longest := []string{""}
	for range 5 {
		var next []string
		for _, s := range longest {
			for _, b := range []string{"\x00", "\x01", "\x7f", "\x80", "\x81", "\xff"} {
				next = append(next, s+b)
			}
		}
		l = append(l, next...)
		longest = next
	}
	return l
}

// P2.3: of each text, either what is read has as its Print just what was taken off, or nothing is.
func TestOneFormAlone(t *testing.T) {
	for _, s := range shortTexts() {
		tape := &Tape{S: s}
		n := tape.Num(math.MaxUint64)
		value, size := binary.Uvarint([]byte(s))
		if size <= 0 || string(binary.AppendUvarint(nil, value)) != s[:size] {
			if n != 0 || !tape.Bad || tape.S != s {
				t.Errorf("Num of %q = %d, and leaves %q, %v", s, n, tape.S, tape.Bad)
			}
			continue
		}
		if n != value || tape.Bad || tape.S != s[size:] || Print(n)+tape.S != s {
			t.Errorf("Num of %q = %d, and leaves %q, %v", s, n, tape.S, tape.Bad)
		}
	}
}

// P2.3: no two numbers have one Print, nor is one the beginning of another.
func TestNoPrintBeginsAnother(t *testing.T) {
	l := numbers()
	for i, a := range l {
		for j, b := range l {
			if i != j && strings.HasPrefix(Print(a), Print(b)) {
				t.Errorf("Print(%d) begins Print(%d)", b, a)
			}
		}
	}
}

// P2.2: Int takes any number.
func TestIntIsThereAndBack(t *testing.T) {
	for _, n := range signed() {
		tape := &Tape{S: Print(Fold(n)) + "x"}
		if got := tape.Int(); got != n {
			t.Errorf("Int of %d = %d", n, got)
		}
		expect(t, "Int of what is there", tape, "x", false)
	}
	tape := &Tape{S: "\x05"}
	if got := tape.Int(); got != -3 || !tape.Done() {
		t.Errorf("Int of 5 = %d", got)
	}
}

// P2.2: just as many bytes, of any kind, and those behind stay.
func TestTextIsTheNextBytes(t *testing.T) {
	for _, s := range []string{"", "a", "ab", "grün", "\x80\xff\x00", strings.Repeat("xy", 1000)} {
		for n := range len(s) + 1 {
			tape := &Tape{S: s}
			if got := tape.Text(uint64(n)); got != s[:n] {
				t.Errorf("Text(%d) of %q = %q", n, s, got)
			}
			expect(t, "Text of what is there", tape, s[n:], false)
			if tape.Done() != (n == len(s)) {
				t.Errorf("Done behind Text(%d) of %d bytes: %v", n, len(s), tape.Done())
			}
		}
	}
}

// P2.2: a text that is longer than what is left, up to such as would be below 0 in other kinds of numbers.
func TestTextIsTooLong(t *testing.T) {
	for _, s := range []string{"", "a", "abc", "\x01\x02\x03"} {
		size := uint64(len(s))
		for _, n := range []uint64{size + 1, size + 2, 1 << 32, 1<<32 + size, 1<<63 - 1, 1 << 63, 1<<63 + size, math.MaxUint64} {
			tape := &Tape{S: s}
			if got := tape.Text(n); got != "" {
				t.Errorf("Text(%d) of %q = %q", n, s, got)
			}
			expect(t, "Text that is too long", tape, s, true)
			expectStopped(t, "Text that is too long", tape)
		}
	}
}

// P2.2: nothing of none is there.
func TestTextOfNone(t *testing.T) {
	tape := &Tape{}
	if got := tape.Text(0); got != "" || !tape.Done() {
		t.Errorf("Text(0) of an empty tape = %q, Done %v", got, tape.Done())
	}
	expect(t, "Text(0)", tape, "", false)
}

func TestDoneChangesNothing(t *testing.T) {
	for _, x := range []struct {
		tape Tape
		want bool
	}{
		{Tape{}, true},
		{Tape{S: "\x00"}, false}, {Tape{S: "\x80"}, false}, {Tape{S: "abc"}, false},
		{Tape{Bad: true}, false}, {Tape{S: "abc", Bad: true}, false},
	} {
		tape := x.tape
		for range 2 {
			if got := tape.Done(); got != x.want {
				t.Errorf("Done of %q, %v = %v", x.tape.S, x.tape.Bad, got)
			}
		}
		expect(t, "Done", &tape, x.tape.S, x.tape.Bad)
	}
}

// P2.2: nothing is read of a tape that is handed in as Bad.
func TestHandedInAsBad(t *testing.T) {
	for _, s := range []string{"", "\x00", "\x05abc", "\x80", "\x80\x00"} {
		expectStopped(t, "handed in as Bad", &Tape{S: s, Bad: true})
	}
}

// P2.2: things of all ways, one behind the other, and the last one just up to the end.
func TestOneBehindTheOther(t *testing.T) {
	tape := &Tape{S: Print(128) + Print(Fold(-7)) + "ab" + Print(math.MaxUint64) + Print(0)}
	if n := tape.Num(128); n != 128 || tape.Done() {
		t.Errorf("first: %d", n)
	}
	if n := tape.Int(); n != -7 || tape.Done() {
		t.Errorf("second: %d", n)
	}
	if s := tape.Text(2); s != "ab" || tape.Done() {
		t.Errorf("third: %q", s)
	}
	if n := tape.Num(math.MaxUint64); n != math.MaxUint64 || tape.Done() {
		t.Errorf("fourth: %d", n)
	}
	if n := tape.Num(0); n != 0 || !tape.Done() {
		t.Errorf("fifth: %d", n)
	}
	if n := tape.Num(math.MaxUint64); n != 0 || tape.Done() {
		t.Errorf("behind the end: %d", n)
	}
	expect(t, "behind the end", tape, "", true)
}

// No call panics: a nil tape has nothing, and isn't done.
func TestNilTape(t *testing.T) {
	var tape *Tape
	if tape.Num(math.MaxUint64) != 0 || tape.Int() != 0 || tape.Text(0) != "" || tape.Text(1) != "" || tape.Done() {
		t.Error("a nil tape has something")
	}
}
