package dict

import (
	"encoding/binary"
	"fmt"
	"maps"
	"math"
	"slices"
	"strings"
	"testing"

	"distiller/cell"
	"distiller/shelf"
	"distiller/vary"
)

// cells are of each kind: nothing, the ends of int, and texts of up to just MaxText (16) bytes.
func cells() []string {
	return []string{
		"", cell.Bool(false), cell.Bool(true), cell.Int(math.MinInt), cell.Int(-1), cell.Int(0), cell.Int(1), cell.Int(math.MaxInt),
		cell.Text(""), cell.Text("a"), cell.Text("b"), cell.Text("ta"), cell.Text("\x00"), cell.Text("\xff\xfe"), cell.Text("grün"),
		cell.Text(strings.Repeat("x", 15)), cell.Text("0123456789abcdef"), cell.Text(strings.Repeat("\x00", 16)),
	}
}

// wrongCells are texts that may not be cells.
func wrongCells() []string {
	return []string{
		"\x00", "\x00\x00", "x", "zz", "T", "\xff", "b", "b\x02", "b\xff", "b\x00\x00", "i", cell.Int(0)[:8], cell.Int(0) + "\x00",
		cell.Text("0123456789abcdefg"), cell.Text(strings.Repeat("x", 127)), cell.Text(strings.Repeat("x", 1<<14)), "i" + strings.Repeat("\x00", 1<<20),
	}
}

// numbered are so many unlike cells, in an order that is neither rising nor falling.
func numbered(many int) []string {
	l := make([]string, many)
	for i := range l {
		l[i] = cell.Int(i)
		if i%3 == 1 {
			l[i] = cell.Text(cell.Int(i)[5:])
		}
	}
	for i := 0; i+1 < many; i += 2 {
		l[i], l[i+1] = l[i+1], l[i]
	}
	return l
}

// listsOf are all lists of up to most of these.
func listsOf(these []string, most int) [][]string {
	l := [][]string{nil}
	longest := l
	for range most {
		var next [][]string
		for _, before := range longest {
			for _, c := range these {
				next = append(next, append(slices.Clip(before), c))
			}
		}
		l = append(l, next...)
		longest = next
	}
	return l
}

// lists are short ones in whatever order, and ones whose words' number, or whose places, take one byte or two.
func lists() [][]string {
	l := listsOf([]string{"", cell.Bool(true), cell.Text("a"), cell.Text("")}, 5)
	l = append(l, cells(), slices.Repeat(cells(), 3), slices.Repeat([]string{cell.Text("a")}, 4096), slices.Repeat([]string{"", "ta"}, 2048))
	for _, a := range cells() {
		for _, b := range cells() {
			l = append(l, []string{a, b}, []string{a, b, a, a}, []string{a, b, b, ""})
		}
	}
	for _, many := range []int{126, 127, 128, 129, 255, 256, 257, 258, 1365, 4096} {
		words := numbered(many)
		l = append(l, words, slices.Repeat(words, min(3, 4096/many)))
	}
	return l
}

// wantWords is what Words is to be: each cell once, and behind all that are less.
func wantWords(l []string) []string {
	these := map[string]int{}
	for _, c := range l {
		these[c]++
	}
	return slices.SortedFunc(maps.Keys(these), strings.Compare)
}

// wantPrint is what Print is to be, packed by the library: the least place is 0, and the greatest one less than there are words.
func wantPrint(l []string) string {
	words := wantWords(l)
	b := binary.AppendUvarint(nil, uint64(len(words)))
	at := map[string]uint64{}
	for place, c := range words {
		at[c] = uint64(place)
		b = append(binary.AppendUvarint(b, uint64(len(c))), c...)
	}
	size := 0
	for len(words)-1 >= 1<<(8*size) {
		size++
	}
	b = append(b, 0, byte(size))
	for _, c := range l {
		b = append(b, binary.LittleEndian.AppendUint64(nil, at[c])[:size]...)
	}
	return string(b)
}

// form is words and places in whatever form these may be.
func form(words []string, rest string) string {
	b := binary.AppendUvarint(nil, uint64(len(words)))
	for _, c := range words {
		b = append(binary.AppendUvarint(b, uint64(len(c))), c...)
	}
	return string(b) + rest
}

// brief is the beginning of a list, so that a fault in a long one can be read.
func brief(l []string) string {
	return fmt.Sprintf("%d cells, %.20q", len(l), l[:min(len(l), 8)])
}

// expectRead reads what is there, and holds the cells and what is left.
func expectRead(t *testing.T, s string, want []string, left string) {
	t.Helper()
	tape := &vary.Tape{S: s}
	got := Read(tape, len(want))
	if !slices.Equal(got, want) || tape.Bad || tape.S != left {
		t.Fatalf("Read(%.40q, %d) = %s, leaves %.40q, %v; not %s, %.40q", s, len(want), brief(got), tape.S, tape.Bad, brief(want), left)
	}
}

// expectNone reads many cells that aren't there: it is Bad, what is on the tape stays, and nothing is read any more.
func expectNone(t *testing.T, what, s string, many int) {
	t.Helper()
	tape := &vary.Tape{S: s}
	if got := Read(tape, many); len(got) != 0 {
		t.Fatalf("%s: Read(%.40q, %d) = %s", what, s, many, brief(got))
	}
	for range 2 {
		if !tape.Bad || tape.S != s {
			t.Fatalf("%s: Read(%.40q, %d) leaves %.40q, %v", what, s, many, tape.S, tape.Bad)
		}
		if len(Read(tape, 0)) != 0 || len(Read(tape, 1)) != 0 || tape.Num(math.MaxUint64) != 0 || tape.Text(1) != "" || tape.Done() {
			t.Fatalf("%s: %.40q: something is read behind Bad", what, s)
		}
	}
}

// P5.1: the words, written out. They stand byte by byte, and may be any texts.
func TestWordsAreTheUnlikeOnes(t *testing.T) {
	for _, x := range []struct{ l, want []string }{
		{nil, nil}, {[]string{}, nil},
		{[]string{"tb", "ta", "tb"}, []string{"ta", "tb"}},
		{[]string{""}, []string{""}},
		{[]string{"", "", ""}, []string{""}},
		{[]string{"ta"}, []string{"ta"}},
		{[]string{"tc", "tb", "ta"}, []string{"ta", "tb", "tc"}},
		{[]string{"ta", "tb", "tc"}, []string{"ta", "tb", "tc"}},
		{[]string{"ta", "", "ta", ""}, []string{"", "ta"}},
		{[]string{"tab", "t", "tb", "ta", "taa", "t"}, []string{"t", "ta", "taa", "tab", "tb"}},
		{[]string{"t\xff", "tz", "t\x00", "tA", "tü", "ta"}, []string{"t\x00", "tA", "ta", "tz", "tü", "t\xff"}},
		{[]string{cell.Int(1), cell.Int(-1), cell.Text(""), cell.Bool(true), cell.Int(0), "", cell.Bool(false)},
			[]string{"", cell.Bool(false), cell.Bool(true), cell.Int(-1), cell.Int(0), cell.Int(1), cell.Text("")}},
		{[]string{"zz", "\x00", "zz", "x"}, []string{"\x00", "x", "zz"}},
	} {
		if got := Words(x.l); !slices.Equal(got, x.want) {
			t.Errorf("Words(%q) = %q, not %q", x.l, got, x.want)
		}
	}
}

func TestWordsRise(t *testing.T) {
	for _, l := range slices.Concat(lists(), listsOf([]string{"", "zz", "\x00"}, 6)) {
		if got, want := Words(l), wantWords(l); !slices.Equal(got, want) {
			t.Fatalf("Words of %s: %s, not %s", brief(l), brief(got), brief(want))
		}
	}
}

// P5.1: the first one, of words that may be in whatever order, and more than once.
func TestPlaceIsTheFirst(t *testing.T) {
	for _, x := range []struct {
		words []string
		c     string
		want  int
	}{
		{nil, "", -1}, {nil, "ta", -1}, {[]string{}, "", -1},
		{[]string{"ta", "tb"}, "ta", 0}, {[]string{"ta", "tb"}, "tb", 1}, {[]string{"ta", "tb"}, "tc", -1},
		{[]string{"ta", "tb"}, "", -1}, {[]string{"ta", "tb"}, "t", -1}, {[]string{"ta", "tb"}, "taa", -1}, {[]string{"ta", "tb"}, "tab", -1},
		{[]string{"", "ta"}, "", 0}, {[]string{"ta", ""}, "", 1},
		{[]string{"tb", "ta", "tb", "ta"}, "ta", 1}, {[]string{"tb", "ta", "tb", "ta"}, "tb", 0},
		{[]string{"tc", "tb", "ta"}, "ta", 2}, {[]string{"tc", "tb", "ta"}, "tb", 1}, {[]string{"tc", "tb", "ta"}, "tc", 0},
		{[]string{"tb", "tc", "ta", "td"}, "ta", 2}, {[]string{"ta", "ta", "ta"}, "ta", 0}, {[]string{"tz", "tz", "ta"}, "ta", 2},
		{[]string{"zz", "\x00"}, "\x00", 1}, {[]string{"zz", "\x00"}, "zz\x00", -1}, {[]string{"tA"}, "ta", -1},
	} {
		if got := Place(x.words, x.c); got != x.want {
			t.Errorf("Place(%q, %q) = %d, not %d", x.words, x.c, got, x.want)
		}
	}
}

// P5.1: each word has its place, and what is between them none.
func TestPlaceOfWords(t *testing.T) {
	for _, many := range []int{1, 2, 3, 257, 4096, 5000} {
		words := Words(numbered(many))
		for i := 0; i < many; i += max(1, many/50) {
			if got := Place(words, words[i]); got != i {
				t.Errorf("of %d words the one at %d is at %d", many, i, got)
			}
			if got := Place(words, words[i]+"\x00"); got != -1 {
				t.Errorf("of %d words there is one behind %d, at %d", many, i, got)
			}
		}
		if got := Place(words, words[many-1]); got != many-1 {
			t.Errorf("of %d words the last one is at %d", many, got)
		}
	}
}

// P5.1: the bytes, written out.
func TestPrintIsTheBytes(t *testing.T) {
	for _, x := range []struct {
		l    []string
		want string
	}{
		{nil, "\x00\x00\x00"}, {[]string{}, "\x00\x00\x00"},
		{[]string{""}, "\x01\x00\x00\x00"}, {[]string{"", "", ""}, "\x01\x00\x00\x00"},
		{[]string{"ta"}, "\x01\x02ta\x00\x00"}, {[]string{"ta", "ta"}, "\x01\x02ta\x00\x00"},
		{[]string{"tb", "ta", "tb"}, "\x02\x02ta\x02tb\x00\x01\x01\x00\x01"},
		{[]string{"ta", "tb"}, "\x02\x02ta\x02tb\x00\x01\x00\x01"},
		{[]string{"ta", "", "", "b\x01"}, "\x03\x00\x02b\x01\x02ta\x00\x01\x02\x00\x00\x01"},
		{[]string{cell.Int(0), "t"}, "\x02\x09i\x80\x00\x00\x00\x00\x00\x00\x00\x01t\x00\x01\x00\x01"},
		{[]string{"zz", "\x00"}, "\x02\x01\x00\x02zz\x00\x01\x01\x00"},
		{slices.Repeat([]string{"ta"}, 5000), "\x01\x02ta\x00\x00"},
		{[]string{strings.Repeat("x", 128)}, "\x01\x80\x01" + strings.Repeat("x", 128) + "\x00\x00"},
	} {
		if got := Print(x.l); got != x.want {
			t.Errorf("Print of %s: %.40q, not %.40q", brief(x.l), got, x.want)
		}
	}
}

func TestPrintByWordsAndPlaces(t *testing.T) {
	more := [][]string{wrongCells(), numbered(4097), slices.Repeat(numbered(70000), 2)}
	for _, l := range slices.Concat(lists(), listsOf([]string{"", "zz", "\x00"}, 6), more) {
		if got, want := Print(l), wantPrint(l); got != want {
			t.Fatalf("Print of %s: %.40q, not %.40q", brief(l), got, want)
		}
	}
}

// P5.1: what Print has of a cell's place is its Place.
func TestPrintHasPlaces(t *testing.T) {
	for _, l := range lists() {
		words := Words(l)
		var at []int
		for _, c := range l {
			at = append(at, Place(words, c))
		}
		if got, want := Print(l), form(words, shelf.Print(at)); got != want {
			t.Fatalf("Print of %s: %.40q, not %.40q", brief(l), got, want)
		}
	}
}

// P5.2, P5.3: each list is read from its Print, whatever stands behind it.
func TestThereAndBack(t *testing.T) {
	for _, l := range lists() {
		for _, behind := range []string{"", "\x00", "\x01", "\x80", "\xff\xff", "\x02ta\x01"} {
			expectRead(t, Print(l)+behind, l, behind)
		}
	}
}

// P5.2: as many words as there may be, and one more, which so many cells can't have.
func TestReadOfVeryManyWords(t *testing.T) {
	words := Words(numbered(4097))
	at := make([]int, 4097)
	for i := range at {
		at[i] = i
	}
	expectRead(t, form(words[:4096], shelf.Print(at[:4096]))+"x", words[:4096], "x")
	for _, many := range []int{0, 1, 4095, 4096, 4097} {
		expectNone(t, "4097 words", form(words, shelf.Print(at[:many])), many)
	}
	for _, many := range []int{0, 1, 4095} {
		expectNone(t, "4096 words", form(words[:4096], shelf.Print(at[:many])), many)
	}
}

// P5.2: how many words there are may be any number, and no words stand there.
func TestReadOfMoreWordsThanThere(t *testing.T) {
	for _, n := range []uint64{2, 3, 127, 128, 4095, 4096, 4097, 1 << 20, 1 << 31, 1 << 32, 1<<32 + 1, 1 << 62, 1 << 63, 1<<63 + 1, math.MaxUint64} {
		for _, rest := range []string{"", "\x00\x00", "\x02ta\x00\x00", "\x02ta\x02tb\x00\x00"} {
			for many := range 4 {
				expectNone(t, "too many words", vary.Print(n)+rest, many)
			}
		}
	}
}

// P5.2: fewer than none, and more than there may be, also where their Print is there.
func TestReadOfSoManyMayNotBe(t *testing.T) {
	for _, many := range []int{-1, -2, 4097, 4098, 1 << 20, 1 << 32, 1<<32 + 1, 1 << 62, math.MaxInt, math.MinInt, -1 << 32} {
		for _, s := range []string{"", "\x00\x00\x00", "\x01\x00\x00\x00", "\x01\x02ta\x00\x00", Print(slices.Repeat([]string{"ta", ""}, 2049)), Print(numbered(4097))} {
			expectNone(t, "not 0 to 4096", s, many)
		}
	}
	expectRead(t, "\x01\x02ta\x00\x00", slices.Repeat([]string{"ta"}, 4096), "")
}

// P5.2: none have a Print, too, and without it they aren't there.
func TestReadOfNone(t *testing.T) {
	expectRead(t, "\x00\x00\x00", nil, "")
	expectRead(t, "\x00\x00\x00\x00", nil, "\x00")
	for _, s := range []string{"", "\x00", "\x00\x00", "\x01\x00\x00\x00", "\x01\x02ta\x00\x00", "\x00\x00\x01", "\x00\x02\x00", "\x00\x01\x00", "\x80", "zz"} {
		expectNone(t, "none", s, 0)
	}
}

// P5.2: a tape that ends within has none, and what is there stays.
func TestReadEndsWithin(t *testing.T) {
	for _, l := range lists() {
		whole := Print(l)
		// All ends are tried of short ones, and of long ones those near either end.
		for end := range whole {
			if end > 40 && end < len(whole)-10 {
				continue
			}
			expectNone(t, "ends within", whole[:end], len(l))
		}
	}
}

// P5.2: one more cell than is there, and one fewer, where places take bytes, or a word is left over.
func TestReadOfMoreOrFewer(t *testing.T) {
	for _, l := range lists() {
		words, whole := Words(l), Print(l)
		if len(words) > 1 {
			expectNone(t, "one more", whole, len(l)+1)
		}
		if len(l) > 0 && len(Words(l[:len(l)-1])) < len(words) {
			expectNone(t, "one fewer", whole, len(l)-1)
		}
	}
	expectNone(t, "some of none", "\x00\x00\x00", 1)
	expectNone(t, "none of some", "\x01\x00\x00\x00", 0)
}

// P5.2: places that end with the many ones are theirs, as if no more had been printed.
func TestReadOfTheFirst(t *testing.T) {
	expectRead(t, "\x02\x02ta\x02tb\x00\x01\x01\x00\x01", []string{"tb", "ta"}, "\x01")
	expectRead(t, "\x02\x02ta\x02tb\x00\x01\x01\x00\x02", []string{"tb", "ta"}, "\x02")
	expectRead(t, "\x01\x02ta\x00\x00", []string{"ta", "ta", "ta"}, "")
	expectRead(t, "\x01\x00\x00\x00\x01", []string{""}, "\x01")
}

// P5.2: one that may not be, wherever it stands, also where its Print is there.
func TestReadOfWrongCells(t *testing.T) {
	for _, c := range wrongCells() {
		for _, l := range [][]string{{c}, {c, c}, {c, "ta"}, {"ta", c}, {"", "ta", c}, {"tz", c, "", "b\x01"}} {
			expectNone(t, "wrong", Print(l), len(l))
		}
	}
}

// P5.2, P5.3: another form than Print's is none.
func TestReadOfOtherForms(t *testing.T) {
	a, b, c := "ta", "tb", "tc"
	for _, x := range []struct {
		what  string
		words []string
		rest  string
		many  int
	}{
		{"words fall", []string{b, a}, "\x00\x01\x01\x00", 2},
		{"words fall, and the places rise", []string{b, a}, "\x00\x01\x00\x01", 2},
		{"words fall at the end", []string{a, c, b}, "\x00\x01\x00\x01\x02", 3},
		{"nothing isn't first", []string{a, ""}, "\x00\x01\x00\x01", 2},
		{"a word twice", []string{a, a}, "\x00\x01\x00\x01", 2},
		{"a word twice, once asked for", []string{a, a}, "\x00\x00", 2},
		{"nothing twice", []string{"", ""}, "\x00\x01\x00\x01", 2},
		{"a word twice, at the end", []string{a, b, b}, "\x00\x01\x00\x01\x02", 3},
		{"a word twice, its second one not asked for", []string{a, b, b}, "\x00\x01\x00\x01\x01", 3},
		{"the last word isn't asked for", []string{a, b}, "\x00\x00", 2},
		{"the last word of three isn't asked for", []string{a, b, c}, "\x00\x01\x00\x01\x01", 3},
		{"the first word isn't asked for", []string{a, b}, "\x02\x00", 2},
		{"the first word of three isn't asked for", []string{a, b, c}, "\x02\x01\x00\x01\x01", 3},
		{"the middle word isn't asked for", []string{a, b, c}, "\x00\x01\x00\x02\x02", 3},
		{"no word is asked for", []string{a}, "\x00\x00", 0},
		{"no words", nil, "\x00\x00", 1},
		{"no words, beyond them", nil, "\x02\x00", 1},
		{"no words, ahead of them", nil, "\x01\x00", 1},
		{"beyond the words", []string{a}, "\x02\x00", 1},
		{"beyond the words, one of them", []string{a, b}, "\x00\x01\x00\x02", 2},
		{"beyond the words, one of more", []string{a, b}, "\x00\x01\x00\x01\x02", 3},
		{"far beyond the words", []string{a, b}, shelf.Print([]int{0, 1, math.MaxInt}), 3},
		{"ahead of the words", []string{a}, "\x01\x00", 1},
		{"ahead of the words, one of them", []string{a, b}, "\x01\x01\x01\x00", 2},
		{"ahead of the words, one of more", []string{a, b}, "\x01\x01\x01\x02\x00", 3},
		{"far ahead of the words", []string{a, b}, shelf.Print([]int{0, 1, math.MinInt}), 3},
		{"places in a byte too much", []string{a, b}, "\x00\x02\x00\x00\x01\x00", 2},
		{"same places in a byte", []string{a}, "\x00\x01\x00\x00", 2},
		{"one place in a byte", []string{a}, "\x00\x01\x00", 1},
		{"none in a byte", nil, "\x00\x01", 0},
		{"none behind another one", nil, "\x02\x00", 0},
		{"the least place isn't first", []string{a, b, c}, "\x02\x01\x00\x01\x00", 3},
		{"nine bytes a place", []string{a, b}, "\x00\x09" + strings.Repeat("\x00", 9) + "\x01" + strings.Repeat("\x00", 8), 2},
		{"the least place in another form", []string{a, b}, "\x80\x00\x01\x00\x01", 2},
		{"the bytes in another form", []string{a, b}, "\x00\x81\x00\x00\x01", 2},
	} {
		expectNone(t, x.what, form(x.words, x.rest), x.many)
	}
}

// P5.2, P5.3: so is a number, or a length, of the words in another form than its Print.
func TestReadOfOtherNumbers(t *testing.T) {
	for _, s := range []string{
		"\x81\x00\x02ta\x00\x00", "\x81\x80\x00\x02ta\x00\x00", "\x81\x80\x80\x80\x80\x80\x80\x80\x80\x02\x02ta\x00\x00", "\x80\x00\x00\x00",
		"\x01\x82\x00ta\x00\x00", "\x01\x82\x80\x00ta\x00\x00", "\x01\x82\x80\x80\x80\x80\x80\x80\x80\x80\x02ta\x00\x00", "\x01\x80\x00\x00\x00",
		"\x01\x03ta\x00\x00", "\x01\x01ta\x00\x00", "\x01\xff\xff\xff\xff\xff\xff\xff\xff\xff\x01ta\x00\x00", strings.Repeat("\x80", 20), strings.Repeat("\xff", 20),
	} {
		for many := range 3 {
			expectNone(t, "another form", s, many)
		}
	}
}

// shortTexts are all of up to eight of the bytes where forms part.
func shortTexts() []string {
	l := []string{""}
	longest := l
	for range 8 {
		var next []string
		for _, s := range longest {
			for _, b := range []string{"\x00", "\x01", "\x02", "b", "t"} {
				next = append(next, s+b)
			}
		}
		l = append(l, next...)
		longest = next
	}
	return l
}

// shortPrints are what Print is to be of all lists of so many cells that take at most eight of the bytes where forms part: a word has no more than two, since its length is one of them.
func shortPrints(many int) map[string][]string {
	these := []string{"", "b\x00", "b\x01", "t", "t\x00", "t\x01", "t\x02", "tb", "tt"}
	prints := map[string][]string{}
	for _, l := range listsOf(these, many) {
		if s := wantPrint(l); len(l) == many && len(s) <= 8 {
			prints[s] = l
		}
	}
	return prints
}

// P5.2, P5.3: of each text, either it begins with some list's Print, and just that is read, or nothing is.
func TestOneFormAlone(t *testing.T) {
	texts := shortTexts()
	for many := range 4 {
		prints := shortPrints(many)
		found := 0
		for _, s := range texts {
			tape := &vary.Tape{S: s}
			got := Read(tape, many)
			want, left, is := []string(nil), s, false
			for end := range len(s) + 1 {
				if l, here := prints[s[:end]]; here {
					want, left, is = l, s[end:], true
				}
			}
			if !slices.Equal(got, want) || tape.Bad == is || tape.S != left {
				t.Fatalf("Read(%q, %d) = %q, leaves %q, %v; not %q, %q, %v", s, many, got, tape.S, tape.Bad, want, left, !is)
			}
			if is {
				found++
			}
		}
		if found == 0 || found == len(texts) {
			t.Errorf("%d of %d texts have %d cells", found, len(texts), many)
		}
	}
}

// P5.2: nothing is read of a tape that is handed in as Bad.
func TestHandedInAsBad(t *testing.T) {
	for _, s := range []string{"", "\x00\x00\x00", "\x01\x00\x00\x00", "\x01\x02ta\x00\x00", "\x80"} {
		for _, many := range []int{0, 1, 2, -1, 4097} {
			tape := &vary.Tape{S: s, Bad: true}
			if got := Read(tape, many); len(got) != 0 || !tape.Bad || tape.S != s {
				t.Errorf("Read of a bad %q = %q, and leaves %q, %v", s, got, tape.S, tape.Bad)
			}
		}
	}
}

// P5.2: lists one behind the other, with another thing between, up to the end.
func TestOneBehindTheOther(t *testing.T) {
	a, b := []string{"tb", "ta", "tb", ""}, []string{"", cell.Int(7)}
	tape := &vary.Tape{S: Print(a) + Print(nil) + vary.Print(300) + Print(b)}
	if got := Read(tape, 4); !slices.Equal(got, a) {
		t.Errorf("first: %q", got)
	}
	if got := Read(tape, 0); len(got) != 0 || tape.Bad {
		t.Errorf("second: %q, %v", got, tape.Bad)
	}
	if got := tape.Num(300); got != 300 {
		t.Errorf("third: %d", got)
	}
	if got := Read(tape, 2); !slices.Equal(got, b) || !tape.Done() {
		t.Errorf("fourth: %q, %v", got, tape.Done())
	}
	if got := Read(tape, 0); len(got) != 0 || !tape.Bad || tape.S != "" {
		t.Errorf("behind the end: %q, %v", got, tape.Bad)
	}
}

// What is handed in isn't changed, its spare room neither, and answers are new memory.
func TestNothingIsChangedOrShared(t *testing.T) {
	room := []string{"tb", "tb", "", "ta", "td", "tc"}
	was := slices.Clone(room)
	for end := range len(room) + 1 {
		l := room[:end]
		s := Print(l)
		words := Words(l)
		Place(l, "ta")
		for i := range words {
			words[i] = "changed"
		}
		words = append(words, "more")
		first := Read(&vary.Tape{S: s}, end)
		second := Read(&vary.Tape{S: s}, end)
		for i := range first {
			first[i] = "changed"
		}
		first = append(first, "more")
		if !slices.Equal(second, was[:end]) || !slices.Equal(room, was) {
			t.Errorf("%q has become %q, and what is read %q", was, room, second)
		}
	}
}

// A list whose cells are in order already isn't its own Words.
func TestWordsAreNewMemory(t *testing.T) {
	l := []string{"ta", "tb", "tc"}
	first, second := Words(l), Words(l)
	first[0], first[2] = "changed", "changed"
	if !slices.Equal(l, []string{"ta", "tb", "tc"}) || !slices.Equal(second, l) {
		t.Errorf("%q, %q", l, second)
	}
}

// No call panics: a nil tape has nothing.
func TestNilTape(t *testing.T) {
	for _, many := range []int{-1, 0, 1, 4097} {
		if got := Read(nil, many); len(got) != 0 {
			t.Errorf("Read(nil, %d) = %q", many, got)
		}
	}
}
