package cell

import (
	"math"
	"slices"
	"strings"
	"testing"
)

// numbers are rising: the ends of int, and on both sides of 0 each power of two with its neighbours.
func numbers() []int {
	l := []int{math.MinInt, math.MaxInt, 0, 0x0102030405060708, -0x0102030405060708}
	for bit := range 63 {
		p := 1 << bit
		l = append(l, p-1, p, p+1, -p-1, -p, 1-p)
	}
	slices.Sort(l)
	return slices.Compact(l)
}

// P1.1: the cell's bytes, written out.
func TestIntIsTheCell(t *testing.T) {
	for _, x := range []struct {
		n    int
		want string
	}{
		{0, "i\x80\x00\x00\x00\x00\x00\x00\x00"},
		{1, "i\x80\x00\x00\x00\x00\x00\x00\x01"},
		{-1, "i\x7f\xff\xff\xff\xff\xff\xff\xff"},
		{255, "i\x80\x00\x00\x00\x00\x00\x00\xff"},
		{256, "i\x80\x00\x00\x00\x00\x00\x01\x00"},
		{-256, "i\x7f\xff\xff\xff\xff\xff\xff\x00"},
		{1 << 32, "i\x80\x00\x00\x01\x00\x00\x00\x00"},
		{0x0102030405060708, "i\x81\x02\x03\x04\x05\x06\x07\x08"},
		{math.MaxInt, "i\xff\xff\xff\xff\xff\xff\xff\xff"},
		{math.MinInt, "i\x00\x00\x00\x00\x00\x00\x00\x00"},
		{math.MinInt + 1, "i\x00\x00\x00\x00\x00\x00\x00\x01"},
	} {
		if got := Int(x.n); got != x.want {
			t.Errorf("Int(%d) = %q, not %q", x.n, got, x.want)
		}
	}
}

func TestBoolIsTheCell(t *testing.T) {
	if got := Bool(false); got != "b\x00" {
		t.Errorf("Bool(false) = %q", got)
	}
	if got := Bool(true); got != "b\x01" {
		t.Errorf("Bool(true) = %q", got)
	}
}

// texts are such as a cell may have, up to just MaxText (16) bytes.
func texts() []string {
	return []string{
		"", "a", "t", "b\x01", "\x00", "\x00\x00a", "\xff\xfe", "12345678", "grün",
		strings.Repeat("x", 15), "0123456789abcdef", strings.Repeat("\x00", 16), strings.Repeat("\xff", 16), strings.Repeat("ü", 8),
	}
}

// longTexts are of a byte more than MaxText, and of more than that.
func longTexts() []string {
	return []string{
		"0123456789abcdefg", strings.Repeat("\x00", 17), strings.Repeat("ü", 8) + "x", strings.Repeat("ü", 9),
		strings.Repeat("x", 256+16), strings.Repeat("x", 1<<16),
	}
}

// P1.1: of any text, one that is too long too.
func TestTextIsTheCell(t *testing.T) {
	for _, s := range slices.Concat(texts(), longTexts()) {
		if got := Text(s); got != "t"+s {
			t.Errorf("Text(%q) = %q", s, got)
		}
	}
}

func TestKindIsTheFirstByte(t *testing.T) {
	for _, x := range []struct {
		c    string
		want byte
	}{
		{"", 0}, {Bool(false), 'b'}, {Bool(true), 'b'}, {Int(0), 'i'}, {Int(math.MinInt), 'i'}, {Int(math.MaxInt), 'i'},
		{Text(""), 't'}, {Text("i"), 't'}, {Text("0123456789abcdefg"), 't'},
		{"i", 'i'}, {"b\x02", 'b'}, {"x", 'x'}, {"\x00", 0}, {"\x00b", 0}, {"\xffabc", 0xff}, {"ü", 0xc3},
	} {
		if got := Kind(x.c); got != x.want {
			t.Errorf("Kind(%q) = %d, not %d", x.c, got, x.want)
		}
	}
}

func TestNumIsTheNumber(t *testing.T) {
	for _, n := range numbers() {
		if got, is := Num(Int(n)); got != n || !is {
			t.Errorf("Num(Int(%d)) = %d, %v", n, got, is)
		}
	}
	if n, is := Num("i\x81\x02\x03\x04\x05\x06\x07\x08"); n != 0x0102030405060708 || !is {
		t.Errorf("Num of bytes 1 to 8 = %x, %v", n, is)
	}
}

func TestNumOfWhatIsNone(t *testing.T) {
	word := Int(77)[1:]
	wrong := []string{
		"", "i", "i" + word[:7], "i" + word + "\x00", word, "I" + word, "t" + word, "b" + word, "\x00" + word, "x",
		Bool(false), Bool(true), Text(""), Text("12345678"), Text(Int(5)), Int(1) + Int(2), "i" + strings.Repeat("\x00", 1<<16),
	}
	for _, c := range wrong {
		if n, is := Num(c); n != 0 || is {
			t.Errorf("Num(%q) = %d, %v", c, n, is)
		}
	}
}

func TestYesIsThatAlone(t *testing.T) {
	if !Yes(Bool(true)) || !Yes("b\x01") {
		t.Error("yes isn't yes")
	}
	for _, c := range []string{
		"", Bool(false), "b", "b\x02", "b\x81", "b\xff", "b1", "b\x01\x00", "b\x01\x01", "B\x01", "\x01", "t\x01", "i\x01",
		Int(1), Text("b\x01"), Text("yes"), "x",
	} {
		if Yes(c) {
			t.Errorf("Yes(%q)", c)
		}
	}
}

func TestRightOfCells(t *testing.T) {
	cells := []string{"", Bool(false), Bool(true)}
	for _, n := range numbers() {
		cells = append(cells, Int(n))
	}
	for _, s := range texts() {
		cells = append(cells, Text(s))
	}
	for _, c := range cells {
		if !Right(c) {
			t.Errorf("%q isn't right", c)
		}
	}
}

func TestRightOfWhatIsNone(t *testing.T) {
	wrong := []string{
		"\x00", "\x00\x00", "x", "B\x00", "I" + Int(0)[1:], "T", "\xff",
		"b", "b\x02", "b\x80", "b\xff", "b0", "b1", "b\x00\x00", "b\x01\x01",
		"i", "i5", Int(0)[:8], Int(0) + "\x00", Int(1) + Int(2), " " + Text("a"),
	}
	for _, s := range longTexts() {
		wrong = append(wrong, Text(s))
	}
	for _, c := range wrong {
		if Right(c) {
			t.Errorf("%q is right", c)
		}
	}
}

// P1.1: each text of up to two bytes, so that no form beside those of the chapter is taken.
func TestShortTexts(t *testing.T) {
	all := []string{""}
	for a := range 256 {
		all = append(all, string([]byte{byte(a)}))
		for b := range 256 {
			all = append(all, string([]byte{byte(a), byte(b)}))
		}
	}
	for _, c := range all {
		want := c == "" || c == "b\x00" || c == "b\x01" || c[0] == 't'
		if Right(c) != want {
			t.Errorf("Right(%q) = %v", c, !want)
		}
		if Yes(c) != (c == "b\x01") {
			t.Errorf("Yes(%q) = %v", c, Yes(c))
		}
		if n, is := Num(c); n != 0 || is {
			t.Errorf("Num(%q) = %d, %v", c, n, is)
		}
	}
}

// P1.1: each first byte, with as many bytes behind it as any cell may have, and some more.
func TestLengths(t *testing.T) {
	for first := range 256 {
		for more := range 40 {
			c := string([]byte{byte(first)}) + strings.Repeat("\x01", more)
			want := first == 'b' && more == 1 || first == 'i' && more == 8 || first == 't' && more <= 16
			if Right(c) != want {
				t.Errorf("Right(%q) = %v", c, !want)
			}
			if Kind(c) != byte(first) {
				t.Errorf("Kind(%q) = %d", c, Kind(c))
			}
			if _, is := Num(c); is != (first == 'i' && more == 8) {
				t.Errorf("Num(%q): %v", c, is)
			}
		}
	}
}

// P1.2: each pair, so that it hangs on no few bytes.
func TestNumbersStandInOrder(t *testing.T) {
	l := numbers()
	for i, a := range l {
		for j, b := range l {
			if strings.Compare(Int(a), Int(b)) != min(max(i-j, -1), 1) {
				t.Fatalf("%d and %d don't stand as their cells do", a, b)
			}
		}
	}
	if !(Int(-1) < Int(0)) {
		t.Error("-1 doesn't stand ahead of 0")
	}
}

// The words of the chapter: cells stand byte by byte, nothing ahead of all.
func TestKindsStandInOrder(t *testing.T) {
	l := []string{
		"", Bool(false), Bool(true), Int(math.MinInt), Int(-1), Int(0), Int(math.MaxInt),
		Text(""), Text("\x00"), Text("A"), Text("a"), Text("aa"), Text("b"), Text("\xff"),
	}
	for i := range len(l) - 1 {
		if !(l[i] < l[i+1]) {
			t.Errorf("%q doesn't stand ahead of %q", l[i], l[i+1])
		}
	}
}
