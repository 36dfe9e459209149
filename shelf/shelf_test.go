package shelf

import (
	"encoding/binary"
	"math"
	"math/big"
	"slices"
	"strings"
	"testing"

	"distiller/vary"
)

// starts are numbers on both sides of 0, and the ends with their neighbours.
func starts() []int {
	return []int{
		math.MinInt, math.MinInt + 1, math.MinInt + 255, -1 << 62, -1 << 32, -65537, -256, -255, -2, -1, 0,
		1, 2, 63, 64, 127, 255, 256, 65535, 1 << 32, 1 << 62, math.MaxInt - 256, math.MaxInt - 1, math.MaxInt,
	}
}

// distances are those where one more byte is taken, each with its neighbours, and such as have unlike bytes.
func distances() []uint64 {
	l := []uint64{0, 1, 2, 127, 128, 0x0102, 0x010203, 0x0102030405060708, 0xfedcba9876543210, math.MaxUint64 - 1, math.MaxUint64}
	for k := 1; k < 8; k++ {
		p := uint64(1) << (8 * k)
		l = append(l, p-1, p, p+1)
	}
	return l
}

// lists are of up to four numbers each, with each distance from each start that has a number so far off.
func lists() [][]int {
	l := [][]int{nil, {}}
	for _, start := range starts() {
		l = append(l, []int{start}, []int{start, start}, []int{start, start, start})
		for _, far := range distances() {
			end := new(big.Int).Add(big.NewInt(int64(start)), new(big.Int).SetUint64(far))
			if !end.IsInt64() {
				continue
			}
			n := int(end.Int64())
			between := start + int(far/2)
			l = append(l, []int{start, n}, []int{n, start}, []int{n, between, start, n}, []int{between, start, n})
		}
	}
	return l
}

// bigDistance is how far n is from start, by numbers without ends.
func bigDistance(n, start int) *big.Int {
	return new(big.Int).Sub(big.NewInt(int64(n)), big.NewInt(int64(start)))
}

// wantBytes is what Bytes is to be, by numbers without ends.
func wantBytes(l []int) int {
	size := 0
	for _, n := range l {
		for _, start := range l {
			size = max(size, (bigDistance(n, start).BitLen()+7)/8)
		}
	}
	return size
}

// wantPrint is what Print is to be, by the library's own packing.
func wantPrint(l []int) string {
	start := 0
	if len(l) > 0 {
		start = slices.Min(l)
	}
	size := wantBytes(l)
	b := binary.AppendVarint(nil, int64(start))
	b = append(b, byte(size))
	for _, n := range l {
		word := binary.LittleEndian.AppendUint64(nil, bigDistance(n, start).Uint64())
		b = append(b, word[:size]...)
	}
	return string(b)
}

// form is a shelf in whatever form.
func form(start, size int, rest string) string {
	return vary.Print(vary.Fold(start)) + vary.Print(uint64(size)) + rest
}

// expectRead reads what is there, and holds the numbers and what is left.
func expectRead(t *testing.T, s string, want []int, left string) {
	t.Helper()
	tape := &vary.Tape{S: s}
	got := Read(tape, len(want))
	if !slices.Equal(got, want) || tape.Bad || tape.S != left {
		t.Errorf("Read(%.40q, %d) = %.40v, leaves %.40q, %v; not %.40v, %.40q", s, len(want), got, tape.S, tape.Bad, want, left)
	}
}

// expectNone reads what isn't there: it is Bad, what is on the tape stays, and nothing is read any more.
func expectNone(t *testing.T, what, s string, many int) {
	t.Helper()
	tape := &vary.Tape{S: s}
	if got := Read(tape, many); len(got) != 0 {
		t.Errorf("%s: Read(%.40q, %d) = %.40v", what, s, many, got)
	}
	for range 2 {
		if !tape.Bad || tape.S != s {
			t.Errorf("%s: Read(%.40q, %d) leaves %.40q, %v", what, s, many, tape.S, tape.Bad)
		}
		if tape.Num(math.MaxUint64) != 0 || tape.Text(1) != "" || tape.Done() || len(Read(tape, 0)) != 0 || len(Read(tape, 1)) != 0 {
			t.Errorf("%s: something is read behind Bad", what)
		}
	}
}

// P3.1: how many bytes, written out.
func TestBytesAreTheFewest(t *testing.T) {
	for _, x := range []struct {
		l    []int
		want int
	}{
		{nil, 0}, {[]int{}, 0}, {[]int{0}, 0}, {[]int{5, 5}, 0}, {[]int{math.MaxInt}, 0}, {[]int{math.MinInt}, 0}, {[]int{-1, -1, -1}, 0},
		{[]int{7, 8}, 1}, {[]int{8, 7}, 1}, {[]int{-1, 0}, 1}, {[]int{7, 262}, 1}, {[]int{7, 263}, 2}, {[]int{-200, 55}, 1}, {[]int{-200, 56}, 2},
		{[]int{1000, 1001}, 1}, {[]int{0, 65535}, 2}, {[]int{0, 65536}, 3}, {[]int{-3, 300, 0}, 2},
		{[]int{0, 1<<24 - 1}, 3}, {[]int{0, 1 << 24}, 4}, {[]int{0, 1<<32 - 1}, 4}, {[]int{0, 1 << 32}, 5},
		{[]int{0, 1<<40 - 1}, 5}, {[]int{0, 1 << 40}, 6}, {[]int{0, 1<<48 - 1}, 6}, {[]int{0, 1 << 48}, 7},
		{[]int{0, 1<<56 - 1}, 7}, {[]int{0, 1 << 56}, 8}, {[]int{0, math.MaxInt}, 8}, {[]int{-1, math.MaxInt}, 8},
		{[]int{math.MinInt, 0}, 8}, {[]int{math.MinInt, math.MaxInt}, 8}, {[]int{math.MaxInt, 0, math.MinInt}, 8},
		{[]int{math.MinInt, math.MinInt + 255}, 1}, {[]int{math.MaxInt, math.MaxInt - 256}, 2},
	} {
		if got := Bytes(x.l); got != x.want {
			t.Errorf("Bytes(%v) = %d, not %d", x.l, got, x.want)
		}
	}
}

// P3.1: it hangs on the distance alone, wherever the least one is and stands.
func TestBytesByDistance(t *testing.T) {
	for _, l := range lists() {
		if got, want := Bytes(l), wantBytes(l); got != want {
			t.Errorf("Bytes(%v) = %d, not %d", l, got, want)
		}
	}
}

// P3.1: the bytes, written out.
func TestPrintIsTheBytes(t *testing.T) {
	for _, x := range []struct {
		l    []int
		want string
	}{
		{nil, "\x00\x00"}, {[]int{}, "\x00\x00"},
		{[]int{0}, "\x00\x00"}, {[]int{5}, "\x0a\x00"}, {[]int{5, 5}, "\x0a\x00"}, {[]int{-1, -1, -1}, "\x01\x00"},
		{[]int{7, 8}, "\x0e\x01\x00\x01"}, {[]int{8, 7}, "\x0e\x01\x01\x00"}, {[]int{-1, 0, 1}, "\x01\x01\x00\x01\x02"},
		{[]int{100, 355}, "\xc8\x01\x01\x00\xff"}, {[]int{100, 356}, "\xc8\x01\x02\x00\x00\x00\x01"},
		{[]int{-3, 300, 0}, "\x05\x02\x00\x00\x2f\x01\x03\x00"},
		{[]int{0x010203, 0}, "\x00\x03\x03\x02\x01\x00\x00\x00"},
		{[]int{0x0102030405060708, 0}, "\x00\x08\x08\x07\x06\x05\x04\x03\x02\x01\x00\x00\x00\x00\x00\x00\x00\x00"},
		{[]int{math.MaxInt}, "\xfe\xff\xff\xff\xff\xff\xff\xff\xff\x01\x00"},
		{[]int{math.MinInt}, "\xff\xff\xff\xff\xff\xff\xff\xff\xff\x01\x00"},
		{[]int{math.MinInt, math.MaxInt, 0}, "\xff\xff\xff\xff\xff\xff\xff\xff\xff\x01\x08" +
			"\x00\x00\x00\x00\x00\x00\x00\x00" + "\xff\xff\xff\xff\xff\xff\xff\xff" + "\x00\x00\x00\x00\x00\x00\x00\x80"},
	} {
		if got := Print(x.l); got != x.want {
			t.Errorf("Print(%v) = %q, not %q", x.l, got, x.want)
		}
	}
}

// P3.1: distances beyond int wrap round.
func TestPrintByDistance(t *testing.T) {
	for _, l := range lists() {
		if got, want := Print(l), wantPrint(l); got != want {
			t.Errorf("Print(%v) = %q, not %q", l, got, want)
		}
	}
}

// P3.3: each number takes as few bytes as the distance lets: k bytes have 8 k bits.
func TestAsFewBytes(t *testing.T) {
	for k := range 8 {
		for _, many := range []int{2, 3, 100} {
			l := make([]int, many)
			l[many-1] = int(uint64(1)<<(8*k)) - 1
			for i := range l {
				l[i] += math.MinInt
			}
			head := len(vary.Print(vary.Fold(math.MinInt))) + 1
			if got := len(Print(l)); got != head+k*many {
				t.Errorf("%d numbers of %d bytes take %d", many, k, got-head)
			}
			l[many-1]++
			if got := len(Print(l)); got != head+(k+1)*many {
				t.Errorf("%d numbers of %d bytes take %d", many, k+1, got-head)
			}
		}
	}
}

// P3.2, P3.3: each list is read from its Print, whatever stands behind it.
func TestThereAndBack(t *testing.T) {
	for _, l := range lists() {
		for _, behind := range []string{"", "\x00", "\x01", "\x80", "\xff\xff", "abc"} {
			expectRead(t, Print(l)+behind, l, behind)
		}
	}
}

// P3.2: as many as there may be, and each of another kind of distance.
func TestReadOfMany(t *testing.T) {
	for _, many := range []int{4, 255, 256, 257, 4095, 4096} {
		for k := range 9 {
			l := make([]int, many)
			for i := range l {
				l[i] = 40 + i
				if k == 0 {
					l[i] = 40
				}
			}
			if k > 1 {
				l[many/2] = 40 + int(uint64(1)<<(8*k-8))
			}
			if k == 8 {
				l[many/3], l[many-1] = math.MinInt, math.MaxInt
			}
			expectRead(t, Print(l)+"x", l, "x")
		}
	}
}

// P3.2: fewer than none, and more than there may be, also where their Print is there.
func TestReadOfSoManyMayNotBe(t *testing.T) {
	long := Print(make([]int, 4097))
	wide := make([]int, 4097)
	wide[0] = 1
	for _, many := range []int{-1, -2, 4097, 4098, 1 << 20, 1 << 32, 1 << 61, 1<<61 + 1, 1 << 62, math.MaxInt, math.MinInt, -1 << 61, -1 << 32} {
		for _, s := range []string{"", "\x00\x00", "\x0a\x00", Print([]int{1}), Print([]int{1, 2}), long, Print(wide), form(0, 8, strings.Repeat("\x00", 80))} {
			expectNone(t, "not 0 to 4096", s, many)
		}
	}
	expectRead(t, Print(wide[:4096]), wide[:4096], "")
}

// P3.2: a tape that ends within has none, and what is there stays.
func TestReadEndsWithin(t *testing.T) {
	for _, l := range lists() {
		if len(l) == 0 {
			continue
		}
		whole := Print(l)
		for end := range whole {
			expectNone(t, "ends within", whole[:end], len(l))
		}
	}
	expectNone(t, "ends within", "", 0)
	expectNone(t, "ends within", "\x00", 0)
}

// P3.2: one more number than is there, where each takes bytes.
func TestReadOfMoreThanThere(t *testing.T) {
	for _, l := range lists() {
		if Bytes(l) > 0 {
			expectNone(t, "one more", Print(l), len(l)+1)
		}
	}
}

// P3.2, P3.3: another form than Print's is none.
func TestReadOfOtherForms(t *testing.T) {
	zeros := strings.Repeat("\x00", 64)
	for _, x := range []struct {
		what, s string
		many    int
	}{
		{"none behind 1", form(1, 0, ""), 0},
		{"none behind -1", form(-1, 0, "abc"), 0},
		{"none behind the least", form(math.MinInt, 0, ""), 0},
		{"none in one byte each", form(0, 1, ""), 0},
		{"none in eight bytes each", form(0, 8, zeros), 0},
		{"one in one byte", "\x00\x01\x00", 1},
		{"one in two bytes", "\x00\x02\x01\x00", 1},
		{"one in eight bytes", form(3, 8, zeros), 1},
		{"one beyond the start", form(3, 1, "\x01"), 1},
		{"same ones in a byte each", form(5, 1, "\x00\x00"), 2},
		{"the least isn't the start", form(5, 1, "\x01\x02"), 2},
		{"the least isn't the start, so same ones", form(5, 1, "\x01\x01"), 2},
		{"a byte too much", form(5, 2, "\x00\x00\xff\x00"), 2},
		{"a byte too much, of eight", form(5, 8, "\x00\x00\x00\x00\x00\x00\x00\x00\xff\xff\xff\xff\xff\xff\xff\x00"), 2},
		{"one beyond the most", form(math.MaxInt, 1, "\x00\x01"), 2},
		{"more beyond the most", form(math.MaxInt-1, 1, "\x00\x02\x01"), 3},
		{"so far beyond the most that it is below the start", form(1, 8, zeros[:8]+"\xff\xff\xff\xff\xff\xff\xff\xff"), 2},
		{"so far beyond the most that it is the least", form(math.MinInt+1, 8, zeros[:8]+"\xff\xff\xff\xff\xff\xff\xff\xff"), 2},
		{"so far beyond the most that it is below 0", form(0, 8, zeros[:8]+"\x00\x00\x00\x00\x00\x00\x00\x80"), 2},
		{"nine bytes each", form(0, 9, zeros), 1},
		{"nine bytes each, the last with something", form(0, 9, zeros[:9]+"\xff\xff\xff\xff\xff\xff\xff\xff\x01"), 2},
		{"sixteen bytes each", form(0, 16, zeros), 2},
		{"256 bytes each", form(0, 256, zeros), 1},
		{"very many bytes each", "\x00" + vary.Print(math.MaxUint64) + zeros, 1},
		{"so many bytes each that they wrap round", "\x00" + vary.Print(1<<63) + zeros, 2},
		{"so many bytes each that they wrap round to one", "\x00" + vary.Print(1<<32+1) + "\x00\x01", 2},
		{"the start in another form", "\x80\x00\x01\x00\x01", 2},
		{"the start of more than 64 bits", "\xff\xff\xff\xff\xff\xff\xff\xff\xff\x02\x00", 1},
		{"the bytes in another form", "\x00\x80\x00", 1},
		{"the bytes in another form, of one", "\x00\x81\x00\x00\x01", 2},
	} {
		expectNone(t, x.what, x.s, x.many)
	}
}

// shortTexts are all of up to five of the bytes where forms part.
func shortTexts() []string {
	l := []string{""}
	longest := []string{""}
	for range 5 {
		var next []string
		for _, s := range longest {
			for _, b := range []string{"\x00", "\x01", "\x02", "\x03", "\x7f", "\x80", "\xff"} {
				next = append(next, s+b)
			}
		}
		l = append(l, next...)
		longest = next
	}
	return l
}

// P3.3: of each text, either what is read has as its Print just what was taken off, or nothing is, and there is no such list.
func TestOneFormAlone(t *testing.T) {
	for _, s := range shortTexts() {
		for many := range 4 {
			want, left, is := beginning(s, many)
			if is {
				expectRead(t, s, want, left)
				continue
			}
			tape := &vary.Tape{S: s}
			if got := Read(tape, many); len(got) != 0 || !tape.Bad || tape.S != s {
				t.Errorf("Read(%q, %d) = %v, and leaves %q, %v", s, many, got, tape.S, tape.Bad)
			}
		}
	}
}

// beginning is the list of many numbers with whose Print s begins, what is behind it, and whether there is one, by the library's own packing.
func beginning(s string, many int) ([]int, string, bool) {
	start, head := binary.Varint([]byte(s))
	if head <= 0 || len(s) == head || s[head] > 8 {
		return nil, "", false
	}
	size := int(s[head])
	end := head + 1 + size*many
	if end > len(s) {
		return nil, "", false
	}
	var l []int
	for at := head + 1; len(l) < many; at += size {
		word := make([]byte, 8)
		copy(word, s[at:at+size])
		l = append(l, int(uint64(start)+binary.LittleEndian.Uint64(word)))
	}
	return l, s[end:], wantPrint(l) == s[:end]
}

// P3.2: nothing is read of a tape that is handed in as Bad.
func TestHandedInAsBad(t *testing.T) {
	for _, s := range []string{"", "\x00\x00", "\x0a\x00", Print([]int{1, 2}), "\x80"} {
		for _, many := range []int{0, 1, 2, -1, 4097} {
			tape := &vary.Tape{S: s, Bad: true}
			if got := Read(tape, many); len(got) != 0 || !tape.Bad || tape.S != s {
				t.Errorf("Read of a bad %q = %v, and leaves %q, %v", s, got, tape.S, tape.Bad)
			}
		}
	}
}

// P3.2: lists one behind the other, with other things between, up to the end.
func TestOneBehindTheOther(t *testing.T) {
	a, b, c := []int{3, -4, 1000}, []int{9}, []int{math.MinInt, math.MaxInt}
	tape := &vary.Tape{S: Print(a) + "ab" + Print(b) + Print(nil) + Print(c)}
	if got := Read(tape, 3); !slices.Equal(got, a) {
		t.Errorf("first: %v", got)
	}
	if got := tape.Text(2); got != "ab" {
		t.Errorf("between: %q", got)
	}
	if got := Read(tape, 1); !slices.Equal(got, b) {
		t.Errorf("second: %v", got)
	}
	if got := Read(tape, 0); len(got) != 0 || tape.Bad {
		t.Errorf("third: %v, %v", got, tape.Bad)
	}
	if got := Read(tape, 2); !slices.Equal(got, c) || !tape.Done() {
		t.Errorf("fourth: %v, %v", got, tape.Done())
	}
	if got := Read(tape, 0); len(got) != 0 || !tape.Bad || tape.S != "" {
		t.Errorf("behind the end: %v, %v", got, tape.Bad)
	}
}

// What is handed in isn't changed, its spare room neither, and answers are new memory.
func TestNothingIsChangedOrShared(t *testing.T) {
	room := []int{9, -5, 700, 3, 11, 12}
	was := slices.Clone(room)
	l := room[:4]
	s := Print(l)
	if Bytes(l); !slices.Equal(room, was) {
		t.Errorf("%v has become %v", was, room)
	}
	first := Read(&vary.Tape{S: s}, 4)
	second := Read(&vary.Tape{S: s}, 4)
	for i := range first {
		first[i] = 0
	}
	if !slices.Equal(second, was[:4]) || !slices.Equal(room, was) {
		t.Errorf("%v has become %v", was[:4], second)
	}
}

// No call panics: a nil tape has nothing.
func TestNilTape(t *testing.T) {
	for _, many := range []int{-1, 0, 1, 4097} {
		if got := Read(nil, many); len(got) != 0 {
			t.Errorf("Read(nil, %d) = %v", many, got)
		}
	}
}
