package wide

import (
	"math"
	"math/big"
	"slices"
	"sync"
	"testing"

	"distiller/api"
)

// numbers are rising: the ends of int, and on both sides of 0 each power of two with its neighbours, and words of unlike halves.
func numbers() []int {
	l := []int{math.MinInt, math.MinInt + 1, math.MaxInt, math.MaxInt - 1, 0, 3, -3, 7, -7, 10, -10}
	for _, n := range []int{0x0123456789abcdef, 0x7fffffff00000000, 0x7fffffff00000001, 0x00000001ffffffff, 0x5555555555555555, 0x00ff00ff00ff00ff, 3037000499, 3037000500} {
		l = append(l, n, -n, ^n)
	}
	for bit := range 63 {
		p := 1 << bit
		l = append(l, p-1, p, p+1, -p-1, -p, 1-p)
	}
	slices.Sort(l)
	return slices.Compact(l)
}

// fewNumbers are those at the ends of 64 bits, of 63, of 32, and of 0, of either sign.
func fewNumbers() []int {
	return []int{
		math.MinInt, math.MinInt + 1, -1<<62 - 1, -1 << 62, 1 - 1<<62, -1<<32 - 1, -1 << 32, 1 - 1<<32, -1 << 31, -3, -2, -1,
		0, 1, 2, 3, 1 << 31, 1<<32 - 1, 1 << 32, 1<<32 + 1, 1<<62 - 1, 1 << 62, 1<<62 + 1, math.MaxInt - 1, math.MaxInt,
	}
}

// wides are all of words at the ends: those of 64 bits, and of 128 bits, of either sign, and their neighbours among them.
func wides() []api.Wide {
	var l []api.Wide
	for _, high := range []int{math.MinInt, math.MinInt + 1, -1 << 62, -1 << 32, -2, -1, 0, 1, 2, 1 << 32, 1 << 62, math.MaxInt - 1, math.MaxInt} {
		for _, low := range []uint64{0, 1, 2, 1<<32 - 1, 1 << 32, 1<<62 + 5, 1<<63 - 2, 1<<63 - 1, 1 << 63, 1<<63 + 1, math.MaxUint64 - 1, math.MaxUint64} {
			l = append(l, api.Wide{High: high, Low: low})
		}
	}
	return l
}

// many are words without a pattern, the same ones each time.
func many(size int) []int {
	l := make([]int, size)
	u := uint64(0x9e3779b97f4a7c15)
	for i := range l {
		u ^= u << 13
		u ^= u >> 7
		u ^= u << 17
		// Some are short, so that products of each length are there.
		l[i] = int(u) >> (i % 64)
	}
	return l
}

// whole is a wide number as one without ends.
func whole(w api.Wide) *big.Int {
	n := new(big.Int).Lsh(big.NewInt(int64(w.High)), 64)
	return n.Add(n, new(big.Int).SetUint64(w.Low))
}

// cut is a number without ends, modulo 2^128, as a wide one.
func cut(n *big.Int) api.Wide {
	word := new(big.Int).SetUint64(math.MaxUint64)
	low := new(big.Int).And(n, word)
	high := new(big.Int).And(new(big.Int).Rsh(n, 64), word)
	return api.Wide{High: int(high.Uint64()), Low: low.Uint64()}
}

// number is an int as a number without ends.
func number(n int) *big.Int { return big.NewInt(int64(n)) }

// together is the sum of all.
func together(l ...api.Wide) api.Wide {
	var sum api.Wide
	for _, w := range l {
		sum = Sum(sum, w)
	}
	return sum
}

func expect(t *testing.T, what string, got, want api.Wide) {
	t.Helper()
	if got != want {
		t.Errorf("%s = %d and %#x, not %d and %#x", what, got.High, got.Low, want.High, want.Low)
	}
}

// P11.1: written out: the sign stands in all bits of High.
func TestOfWrittenOut(t *testing.T) {
	for _, x := range []struct {
		n    int
		want api.Wide
	}{
		{0, api.Wide{}}, {1, api.Wide{Low: 1}}, {5, api.Wide{Low: 5}}, {1 << 32, api.Wide{Low: 1 << 32}}, {1 << 62, api.Wide{Low: 1 << 62}}, {math.MaxInt, api.Wide{Low: 1<<63 - 1}},
		{-1, api.Wide{High: -1, Low: math.MaxUint64}}, {-2, api.Wide{High: -1, Low: math.MaxUint64 - 1}}, {-1 << 32, api.Wide{High: -1, Low: 0xffffffff00000000}},
		{math.MinInt, api.Wide{High: -1, Low: 1 << 63}}, {math.MinInt + 1, api.Wide{High: -1, Low: 1<<63 + 1}},
	} {
		expect(t, "Of", Of(x.n), x.want)
	}
}

func TestOfIsTheNumber(t *testing.T) {
	for _, n := range slices.Concat(numbers(), many(1000)) {
		if w := Of(n); whole(w).Cmp(number(n)) != 0 {
			t.Errorf("Of(%d) = %s", n, whole(w))
		}
	}
}

// P11.1: written out: what goes over from Low to High, and what goes over the ends of 128 bits.
func TestSumWrittenOut(t *testing.T) {
	for _, x := range []struct{ a, b, want api.Wide }{
		{api.Wide{}, api.Wide{}, api.Wide{}},
		{api.Wide{Low: 1}, api.Wide{Low: 2}, api.Wide{Low: 3}},
		{api.Wide{High: 3, Low: 5}, api.Wide{High: 4, Low: 6}, api.Wide{High: 7, Low: 11}},
		{api.Wide{Low: math.MaxUint64}, api.Wide{Low: 1}, api.Wide{High: 1}},
		{api.Wide{Low: 1 << 63}, api.Wide{Low: 1 << 63}, api.Wide{High: 1}},
		{api.Wide{Low: 1 << 63}, api.Wide{Low: 1<<63 - 1}, api.Wide{Low: math.MaxUint64}},
		{api.Wide{Low: 1<<63 - 1}, api.Wide{Low: 1<<63 - 1}, api.Wide{Low: math.MaxUint64 - 1}},
		{api.Wide{Low: 1<<63 + 1}, api.Wide{Low: 1<<63 - 1}, api.Wide{High: 1}},
		{api.Wide{Low: math.MaxUint64}, api.Wide{Low: math.MaxUint64}, api.Wide{High: 1, Low: math.MaxUint64 - 1}},
		{api.Wide{High: -1, Low: math.MaxUint64}, api.Wide{Low: 1}, api.Wide{}},
		{api.Wide{High: -1, Low: math.MaxUint64}, api.Wide{High: -1, Low: math.MaxUint64}, api.Wide{High: -1, Low: math.MaxUint64 - 1}},
		{api.Wide{High: -1, Low: 1 << 63}, api.Wide{High: -1, Low: 1 << 63}, api.Wide{High: -1}},
		{api.Wide{High: 1}, api.Wide{High: -1, Low: math.MaxUint64}, api.Wide{Low: math.MaxUint64}},
		{api.Wide{High: math.MaxInt, Low: math.MaxUint64}, api.Wide{Low: 1}, api.Wide{High: math.MinInt}},
		{api.Wide{High: math.MinInt}, api.Wide{High: -1, Low: math.MaxUint64}, api.Wide{High: math.MaxInt, Low: math.MaxUint64}},
		{api.Wide{High: math.MinInt}, api.Wide{High: math.MinInt}, api.Wide{}},
		{api.Wide{High: math.MaxInt, Low: math.MaxUint64}, api.Wide{High: math.MaxInt, Low: math.MaxUint64}, api.Wide{High: -1, Low: math.MaxUint64 - 1}},
		{api.Wide{High: math.MinInt}, api.Wide{High: math.MaxInt, Low: math.MaxUint64}, api.Wide{High: -1, Low: math.MaxUint64}},
	} {
		expect(t, "Sum", Sum(x.a, x.b), x.want)
		expect(t, "Sum the other way round", Sum(x.b, x.a), x.want)
	}
}

// P11.1: each beside each, held against numbers without ends.
func TestSumIsBothTogether(t *testing.T) {
	l := wides()
	words := many(200)
	for i := 0; i < len(words); i += 2 {
		l = append(l, api.Wide{High: words[i], Low: uint64(words[i+1])})
	}
	for _, a := range l {
		for _, b := range l {
			expect(t, "Sum", Sum(a, b), cut(new(big.Int).Add(whole(a), whole(b))))
		}
	}
}

// P11.1: written out: the least one of 128 bits is the other way round of itself.
func TestMinusWrittenOut(t *testing.T) {
	for _, x := range []struct{ a, want api.Wide }{
		{api.Wide{}, api.Wide{}},
		{api.Wide{Low: 1}, api.Wide{High: -1, Low: math.MaxUint64}},
		{api.Wide{Low: 5}, api.Wide{High: -1, Low: math.MaxUint64 - 4}},
		{api.Wide{Low: 1 << 63}, api.Wide{High: -1, Low: 1 << 63}},
		{api.Wide{Low: math.MaxUint64}, api.Wide{High: -1, Low: 1}},
		{api.Wide{High: 1}, api.Wide{High: -1}},
		{api.Wide{High: 1, Low: 1}, api.Wide{High: -2, Low: math.MaxUint64}},
		{api.Wide{High: 1 << 62}, api.Wide{High: -1 << 62}},
		{api.Wide{High: math.MaxInt}, api.Wide{High: math.MinInt + 1}},
		{api.Wide{High: math.MaxInt, Low: math.MaxUint64}, api.Wide{High: math.MinInt, Low: 1}},
		{api.Wide{High: math.MinInt}, api.Wide{High: math.MinInt}},
	} {
		expect(t, "Minus", Minus(x.a), x.want)
		expect(t, "Minus of that", Minus(x.want), x.a)
	}
}

func TestMinusIsTheOtherWayRound(t *testing.T) {
	for _, a := range wides() {
		expect(t, "Minus", Minus(a), cut(new(big.Int).Neg(whole(a))))
	}
	for _, n := range slices.Concat(numbers(), many(1000)) {
		expect(t, "Minus of Of", Minus(Of(n)), cut(new(big.Int).Neg(number(n))))
	}
}

// P11.1: written out: of either sign, at the ends of 64 bits, and where halves go over.
func TestProductWrittenOut(t *testing.T) {
	for _, x := range []struct {
		a, b int
		want api.Wide
	}{
		{0, 0, api.Wide{}}, {0, math.MinInt, api.Wide{}}, {0, math.MaxInt, api.Wide{}}, {0, -1, api.Wide{}},
		{1, 1, api.Wide{Low: 1}}, {1, -1, api.Wide{High: -1, Low: math.MaxUint64}}, {-1, -1, api.Wide{Low: 1}},
		{3, 7, api.Wide{Low: 21}}, {-3, 7, api.Wide{High: -1, Low: math.MaxUint64 - 20}}, {-3, -7, api.Wide{Low: 21}},
		{1 << 62, 4, api.Wide{High: 1}}, {1 << 62, -4, api.Wide{High: -1}}, {1 << 62, 2, api.Wide{Low: 1 << 63}}, {1 << 62, 3, api.Wide{Low: 3 << 62}}, {1 << 62, -2, api.Wide{High: -1, Low: 1 << 63}},
		{1 << 32, 1 << 32, api.Wide{High: 1}}, {1 << 32, 1 << 31, api.Wide{Low: 1 << 63}}, {-1 << 32, -1 << 32, api.Wide{High: 1}}, {-1 << 32, 1 << 32, api.Wide{High: -1}},
		{1<<32 - 1, 1<<32 - 1, api.Wide{Low: 0xfffffffe00000001}}, {1<<32 - 1, 1<<32 + 1, api.Wide{Low: math.MaxUint64}}, {1<<32 + 1, 1<<32 + 1, api.Wide{High: 1, Low: 1<<33 + 1}},
		{1<<33 - 1, 1<<33 - 1, api.Wide{High: 3, Low: 0xfffffffc00000001}},
		{math.MaxInt, 1, api.Wide{Low: 1<<63 - 1}}, {math.MaxInt, 2, api.Wide{Low: math.MaxUint64 - 1}}, {math.MaxInt, 3, api.Wide{High: 1, Low: 1<<63 - 3}}, {math.MaxInt, -1, api.Wide{High: -1, Low: 1<<63 + 1}},
		{math.MinInt, 1, api.Wide{High: -1, Low: 1 << 63}}, {math.MinInt, -1, api.Wide{Low: 1 << 63}}, {math.MinInt, 2, api.Wide{High: -1}}, {math.MinInt, -2, api.Wide{High: 1}},
		{math.MaxInt, math.MaxInt, api.Wide{High: 1<<62 - 1, Low: 1}}, {math.MinInt, math.MinInt, api.Wide{High: 1 << 62}}, {math.MinInt, math.MaxInt, api.Wide{High: -1 << 62, Low: 1 << 63}},
	} {
		expect(t, "Product", Product(x.a, x.b), x.want)
		expect(t, "Product the other way round", Product(x.b, x.a), x.want)
	}
}

// P11.1: each times each, held against numbers without ends.
func TestProductIsBothTimesEachOther(t *testing.T) {
	l := slices.Concat(numbers(), many(300))
	for _, a := range l {
		for _, b := range l {
			if w := Product(a, b); whole(w).Cmp(new(big.Int).Mul(number(a), number(b))) != 0 {
				t.Fatalf("Product(%d, %d) = %s", a, b, whole(w))
			}
		}
	}
}

// P11.1: a product of small numbers is that of the language.
func TestProductOfSmallNumbers(t *testing.T) {
	for a := -130; a <= 130; a++ {
		for b := -130; b <= 130; b++ {
			expect(t, "Product", Product(a, b), Of(a*b))
		}
	}
}

func TestIntIsTheNumber(t *testing.T) {
	for _, n := range slices.Concat(numbers(), many(1000)) {
		if got, err := Int(Of(n)); got != n || err != api.OK {
			t.Errorf("Int(Of(%d)) = %d, %d", n, got, err)
		}
	}
}

// P11.1: written out: the last one within, and the first one beyond, at either end; far beyond, where Low alone may be.
func TestIntWrittenOut(t *testing.T) {
	for _, x := range []struct {
		w    api.Wide
		want int
		err  api.Errno
	}{
		{api.Wide{}, 0, api.OK}, {api.Wide{Low: 7}, 7, api.OK}, {api.Wide{High: -1, Low: math.MaxUint64}, -1, api.OK},
		{api.Wide{Low: 1<<63 - 1}, math.MaxInt, api.OK}, {api.Wide{Low: 1 << 63}, 0, api.ErrOver}, {api.Wide{Low: 1<<63 + 1}, 0, api.ErrOver}, {api.Wide{Low: math.MaxUint64}, 0, api.ErrOver},
		{api.Wide{High: -1, Low: 1 << 63}, math.MinInt, api.OK}, {api.Wide{High: -1, Low: 1<<63 - 1}, 0, api.ErrOver}, {api.Wide{High: -1, Low: 1}, 0, api.ErrOver}, {api.Wide{High: -1}, 0, api.ErrOver},
		{api.Wide{High: 1}, 0, api.ErrOver}, {api.Wide{High: 1, Low: 7}, 0, api.ErrOver}, {api.Wide{High: 1, Low: math.MaxUint64}, 0, api.ErrOver},
		{api.Wide{High: -2}, 0, api.ErrOver}, {api.Wide{High: -2, Low: 1 << 63}, 0, api.ErrOver}, {api.Wide{High: -2, Low: math.MaxUint64}, 0, api.ErrOver},
		{api.Wide{High: 1 << 32, Low: 1}, 0, api.ErrOver}, {api.Wide{High: 1 << 62}, 0, api.ErrOver}, {api.Wide{High: -1 << 62}, 0, api.ErrOver},
		{api.Wide{High: math.MaxInt, Low: math.MaxUint64}, 0, api.ErrOver}, {api.Wide{High: math.MaxInt, Low: 3}, 0, api.ErrOver}, {api.Wide{High: math.MinInt}, 0, api.ErrOver}, {api.Wide{High: math.MinInt, Low: math.MaxUint64}, 0, api.ErrOver},
	} {
		if got, err := Int(x.w); got != x.want || err != x.err {
			t.Errorf("Int(%d and %#x) = %d, %d", x.w.High, x.w.Low, got, err)
		}
	}
}

// P11.1: each power of two above 64 bits, and each High of one bit, alone and among all others, is beyond.
func TestIntLooksAtEachBitOfHigh(t *testing.T) {
	for bit := range 64 {
		for _, low := range []uint64{0, 5, 1<<63 - 1, 1 << 63, math.MaxUint64} {
			for _, high := range []int{1 << bit, ^(1 << bit)} {
				if n, err := Int(api.Wide{High: high, Low: low}); n != 0 || err != api.ErrOver {
					t.Errorf("Int(%d and %#x) = %d, %d", high, low, n, err)
				}
			}
		}
	}
}

// P11.1: held against numbers without ends.
func TestIntTellsWhatIsBeyond(t *testing.T) {
	check := func(w api.Wide) {
		n, err := Int(w)
		want := whole(w)
		switch {
		case want.IsInt64() && (int64(n) != want.Int64() || err != api.OK):
			t.Errorf("Int of %s = %d, %d", want, n, err)
		case !want.IsInt64() && (n != 0 || err != api.ErrOver):
			t.Errorf("Int of %s, which is beyond, = %d, %d", want, n, err)
		}
	}
	for _, w := range wides() {
		check(w)
	}
	for _, a := range numbers() {
		for _, b := range fewNumbers() {
			check(Product(a, b))
			check(Sum(Of(a), Of(b)))
		}
	}
}

// P11.2: sums that may be in 64 bits, times each other, are the four products together.
func TestProductOfSums(t *testing.T) {
	var sums [][2]int
	for _, a := range fewNumbers() {
		for _, b := range fewNumbers() {
			if new(big.Int).Add(number(a), number(b)).IsInt64() {
				sums = append(sums, [2]int{a, b})
			}
		}
	}
	for _, x := range sums {
		for _, y := range sums {
			want := Product(x[0]+x[1], y[0]+y[1])
			got := together(Product(x[0], y[0]), Product(x[0], y[1]), Product(x[1], y[0]), Product(x[1], y[1]))
			if got != want {
				t.Fatalf("products of %d + %d and %d + %d, together = %s, not %s", x[0], x[1], y[0], y[1], whole(got), whole(want))
			}
		}
	}
}

// P11.2: times one, times less than none, the other way round.
func TestProductsAndMinus(t *testing.T) {
	for _, a := range slices.Concat(numbers(), many(100)) {
		expect(t, "times 1", Product(a, 1), Of(a))
		expect(t, "times -1", Product(a, -1), Minus(Of(a)))
		expect(t, "times 0", Product(a, 0), api.Wide{})
		expect(t, "times 2", Product(a, 2), Sum(Of(a), Of(a)))
		for _, b := range fewNumbers() {
			expect(t, "the other way round", Product(b, a), Product(a, b))
			if a != math.MinInt {
				expect(t, "one of them turned", Product(-a, b), Minus(Product(a, b)))
			}
			if b != math.MinInt {
				expect(t, "the other one turned", Product(a, -b), Minus(Product(a, b)))
			}
		}
	}
}

// P11.2: in whatever order numbers are put together, over the ends of 128 bits too, it is the same; with the other way round nothing is left.
func TestSumsAreAGroup(t *testing.T) {
	l := wides()
	few := []api.Wide{Of(0), Of(1), Of(-1), Of(math.MinInt), Of(math.MaxInt), {High: math.MinInt}, {High: math.MaxInt, Low: math.MaxUint64}, {Low: math.MaxUint64}, {High: -1}, {High: 5, Low: 1<<63 + 3}}
	for _, a := range l {
		expect(t, "with none", Sum(a, api.Wide{}), a)
		expect(t, "with the other way round", Sum(a, Minus(a)), api.Wide{})
		expect(t, "the other way round twice", Minus(Minus(a)), a)
		for _, b := range l {
			expect(t, "in either order", Sum(a, b), Sum(b, a))
			expect(t, "the other way round of both", Minus(Sum(a, b)), Sum(Minus(a), Minus(b)))
			expect(t, "one taken off", Sum(Sum(a, b), Minus(b)), a)
			for _, c := range few {
				expect(t, "first the two behind", Sum(a, Sum(b, c)), Sum(Sum(a, b), c))
			}
		}
	}
}

// P11.2: a sum that goes beyond 64 bits on its way, and comes back, is a number again.
func TestSumsComeBack(t *testing.T) {
	up := Sum(Of(math.MaxInt), Of(1))
	if n, err := Int(up); n != 0 || err != api.ErrOver {
		t.Errorf("one beyond = %d, %d", n, err)
	}
	if n, err := Int(Sum(up, Of(-1))); n != math.MaxInt || err != api.OK {
		t.Errorf("one beyond, and back = %d, %d", n, err)
	}
	down := Sum(Of(math.MinInt), Of(-1))
	if n, err := Int(down); n != 0 || err != api.ErrOver {
		t.Errorf("one below = %d, %d", n, err)
	}
	if n, err := Int(Sum(down, Of(1))); n != math.MinInt || err != api.OK {
		t.Errorf("one below, and back = %d, %d", n, err)
	}
	// Four times 2^126 is 2^128: nothing is left.
	square := Product(math.MinInt, math.MinInt)
	expect(t, "2^127", together(square, square), api.Wide{High: math.MinInt})
	expect(t, "2^128", together(square, square, square, square), api.Wide{})
	var sum api.Wide
	l := many(5000)
	for _, n := range l {
		sum = Sum(sum, Product(n, math.MinInt))
	}
	for _, n := range l {
		sum = Sum(sum, Minus(Product(n, math.MinInt)))
	}
	expect(t, "all of many, and their other way round", sum, api.Wide{})
}

// P11.2: many numbers, each so often, as sums of columns take them.
func TestManyProductsTogether(t *testing.T) {
	var sum api.Wide
	want := new(big.Int)
	l := many(4000)
	for i := 0; i < len(l); i += 2 {
		sum = Sum(sum, Product(l[i], l[i+1]))
		want.Add(want, new(big.Int).Mul(number(l[i]), number(l[i+1])))
		expect(t, "products together", sum, cut(want))
	}
}

// Rule 6: any number of goroutines may call at once, and each has the same answers.
func TestAtOnce(t *testing.T) {
	var wait sync.WaitGroup
	sums := make([]api.Wide, 8)
	for i := range sums {
		wait.Go(func() {
			for _, n := range many(1000) {
				sums[i] = Sum(sums[i], Minus(Product(n, n)))
			}
		})
	}
	wait.Wait()
	for _, sum := range sums {
		expect(t, "one of many at once", sum, sums[0])
	}
}
