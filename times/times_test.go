package times

import (
	"math"
	"math/big"
	"slices"
	"testing"

	"talweg/nat"
)

const top = 1<<32 - 1

// lists are right ones and others, about the numbers at which words and their count turn over.
func lists() [][]uint32 {
	return [][]uint32{
		nil, {}, {0}, {0, 0, 0},
		{1}, {1, 0}, {1, 0, 0, 0}, {2}, {3, 0}, {10}, {1 << 16}, {1 << 31}, {1<<31 - 1, 0}, {top - 1}, {top}, {top, 0},
		{0, 1}, {1, 1}, {0, 1, 0}, {5, 1}, {top, 1}, {0, 1 << 31}, {0, top}, {1, top}, {top, top}, {top, top, 0, 0},
		{0, 0, 1}, {0, 0, 1, 0}, {top, 0, 1}, {0, top, 1}, {top, top, top}, {top, 0, top, 0, top},
		{3, 1, 4, 1, 5, 9}, {3, 1, 4, 1, 5, 9, 0}, {0, 0, 0, 7, 0, 0, 8},
		slices.Repeat([]uint32{top}, 40), append(make([]uint32, 40), 1), append(slices.Repeat([]uint32{top}, 33), 0, 0),
	}
}

// number is what a list of words says, reckoned by another means than the package's.
func number(a []uint32) *big.Int {
	n := new(big.Int)
	for _, w := range slices.Backward(a) {
		n.Lsh(n, 32).Or(n, new(big.Int).SetUint64(uint64(w)))
	}
	return n
}

// says tells whether an answer is a number's nat.
func says(a []uint32, n *big.Int) bool { return nat.Right(a) && number(a).Cmp(n) == 0 }

// pairs calls f with all two of the lists.
func pairs(f func(a, b []uint32)) {
	for _, a := range lists() {
		for _, b := range lists() {
			f(a, b)
		}
	}
}

// P3.1

func TestOne(t *testing.T) {
	for _, x := range []struct {
		a    []uint32
		w, c uint32
		want []uint32
	}{
		{nil, 0, 0, nil}, {nil, 7, 0, nil}, {nil, 7, 3, []uint32{3}}, {[]uint32{0, 0}, top, top, []uint32{top}},
		{[]uint32{4}, 0, 0, nil}, {[]uint32{4, 5}, 0, 6, []uint32{6}}, {[]uint32{4, 5, 0}, 1, 0, []uint32{4, 5}},
		{[]uint32{6}, 7, 8, []uint32{50}}, {[]uint32{top}, 10, 9, []uint32{top, 9}}, {[]uint32{top}, 1, 1, []uint32{0, 1}},
		{[]uint32{top}, top, top, []uint32{0, top}}, {[]uint32{top, top}, top, top, []uint32{0, 0, top}}, {[]uint32{top, top, 0}, 1, 1, []uint32{0, 0, 1}},
		{[]uint32{0, 3}, 1 << 31, 5, []uint32{5, 1 << 31, 1}},
	} {
		if got := One(x.a, x.w, x.c); !slices.Equal(got, x.want) {
			t.Errorf("One(%v, %d, %d) = %v", x.a, x.w, x.c, got)
		}
	}
}

func TestOneOfEveryList(t *testing.T) {
	edges := []uint32{0, 1, 2, 10, 1 << 16, 1<<31 - 1, 1 << 31, top - 1, top}
	for _, a := range lists() {
		for _, w := range edges {
			for _, c := range edges {
				want := new(big.Int).Mul(number(a), big.NewInt(int64(w)))
				want.Add(want, big.NewInt(int64(c)))
				if got := One(a, w, c); !says(got, want) {
					t.Errorf("One(%v, %d, %d) = %v", a, w, c, got)
				}
			}
		}
	}
}

func TestMul(t *testing.T) {
	for _, x := range []struct{ a, b, want []uint32 }{
		{nil, nil, nil}, {nil, []uint32{0}, nil}, {[]uint32{0, 0}, []uint32{5, 6}, nil}, {[]uint32{5}, nil, nil},
		{[]uint32{1}, []uint32{5, 6}, []uint32{5, 6}}, {[]uint32{5, 6, 0}, []uint32{1, 0, 0}, []uint32{5, 6}},
		{[]uint32{6}, []uint32{7}, []uint32{42}}, {[]uint32{5, 0}, []uint32{2, 0}, []uint32{10}},
		{[]uint32{top}, []uint32{top}, []uint32{1, top - 1}}, {[]uint32{1 << 16}, []uint32{1 << 16}, []uint32{0, 1}},
		{[]uint32{0, 2}, []uint32{0, 0, 3}, []uint32{0, 0, 0, 6}},
		{[]uint32{top, top}, []uint32{top, top}, []uint32{1, 0, top - 1, top}},
		{[]uint32{top, top}, []uint32{top}, []uint32{1, top, top - 1}}, {[]uint32{top}, []uint32{top, top}, []uint32{1, top, top - 1}},
		{[]uint32{1, 2, 3}, []uint32{4, 5}, []uint32{4, 13, 22, 15}},
	} {
		if got := Mul(x.a, x.b); !slices.Equal(got, x.want) {
			t.Errorf("Mul(%v, %v) = %v", x.a, x.b, got)
		}
	}
}

func TestMulOfEveryTwo(t *testing.T) {
	pairs(func(a, b []uint32) {
		if got := Mul(a, b); !says(got, new(big.Int).Mul(number(a), number(b))) {
			t.Errorf("Mul(%v, %v) = %v", a, b, got)
		}
	})
}

func TestMulCarriesThroughEveryWord(t *testing.T) {
	for m := 1; m <= 24; m++ {
		for n := 1; n <= 24; n++ {
			a, b := slices.Repeat([]uint32{top}, m), slices.Repeat([]uint32{top}, n)
			if got := Mul(a, b); len(got) != m+n || !says(got, new(big.Int).Mul(number(a), number(b))) {
				t.Errorf("all bits of %d words, and of %d: %v", m, n, got)
			}
		}
	}
	// 2^32 - 1 divides 2^(32n) - 1, so the product has all bits in each word.
	for n := 1; n <= 70; n++ {
		if got := Mul([]uint32{top}, slices.Repeat([]uint32{1}, n)); !slices.Equal(got, slices.Repeat([]uint32{top}, n)) {
			t.Errorf("%d words: %v", n, got)
		}
		if got := One(slices.Repeat([]uint32{1}, n), top, 1); !slices.Equal(got, append(make([]uint32, n), 1)) {
			t.Errorf("%d words, and 1: %v", n, got)
		}
	}
}

func TestMulOfManyWords(t *testing.T) {
	a, b := make([]uint32, 900), make([]uint32, 1301)
	for i := range b {
		b[i] = uint32(i*i)*2654435761 + 7
		a[i%len(a)] = ^b[i] * 40503
	}
	if got := Mul(a, b); !says(got, new(big.Int).Mul(number(a), number(b))) {
		t.Error("the product is another one")
	}
}

func TestShift(t *testing.T) {
	for _, x := range []struct {
		a    []uint32
		n    int
		want []uint32
	}{
		{nil, 0, nil}, {nil, 99, nil}, {[]uint32{0, 0}, 33, nil}, {nil, math.MaxInt, nil}, {nil, math.MinInt, nil},
		{[]uint32{3}, 0, []uint32{3}}, {[]uint32{3, 0, 0}, 0, []uint32{3}}, {[]uint32{3}, 1, []uint32{6}},
		{[]uint32{3}, 31, []uint32{1 << 31, 1}}, {[]uint32{3}, 32, []uint32{0, 3}}, {[]uint32{3}, 33, []uint32{0, 6}}, {[]uint32{3}, 63, []uint32{0, 1 << 31, 1}}, {[]uint32{3}, 64, []uint32{0, 0, 3}},
		{[]uint32{top}, 31, []uint32{1 << 31, 1<<31 - 1}}, {[]uint32{top}, 32, []uint32{0, top}}, {[]uint32{top, top}, 33, []uint32{0, top - 1, top, 1}},
		{[]uint32{3}, -1, []uint32{3}}, {[]uint32{3, 4, 0}, -4, []uint32{3, 4}}, {[]uint32{3}, math.MinInt, []uint32{3}},
	} {
		if got := Shift(x.a, x.n); !slices.Equal(got, x.want) {
			t.Errorf("Shift(%v, %d) = %v", x.a, x.n, got)
		}
	}
}

func TestShiftOfEveryList(t *testing.T) {
	for _, a := range lists() {
		for n := range 100 {
			if got := Shift(a, n); !says(got, new(big.Int).Lsh(number(a), uint(n))) {
				t.Errorf("Shift(%v, %d) = %v", a, n, got)
			}
		}
	}
}

func TestShiftGoesUpByAHundredThousandAtMost(t *testing.T) {
	for _, a := range [][]uint32{{1}, {3, 0}, {top, top}} {
		for _, x := range []struct{ n, counts int }{
			{99999, 99999}, {100000, 100000}, {100001, 100000}, {100032, 100000}, {200000, 100000}, {1 << 40, 100000}, {math.MaxInt, 100000},
		} {
			if got := Shift(a, x.n); !says(got, new(big.Int).Lsh(number(a), uint(x.counts))) {
				t.Errorf("Shift(%v, %d): %d words", a, x.n, len(got))
			}
		}
	}
}

// P3.2

func TestPow(t *testing.T) {
	for _, x := range []struct {
		a    []uint32
		n    int
		want []uint32
	}{
		{[]uint32{10}, 3, []uint32{1000}}, {[]uint32{10}, 10, []uint32{1410065408, 2}}, {[]uint32{7, 0}, 2, []uint32{49}},
		{[]uint32{2}, 31, []uint32{1 << 31}}, {[]uint32{2}, 32, []uint32{0, 1}}, {[]uint32{2}, 33, []uint32{0, 2}},
		{[]uint32{top}, 2, []uint32{1, top - 1}}, {[]uint32{0, 1}, 3, []uint32{0, 0, 0, 1}},
		{[]uint32{5, 6}, 1, []uint32{5, 6}}, {[]uint32{5, 6, 0}, 1, []uint32{5, 6}}, {[]uint32{5, 6}, 0, []uint32{1}}, {[]uint32{2}, 0, []uint32{1}},
	} {
		if got, ok := Pow(x.a, x.n); !ok || !slices.Equal(got, x.want) {
			t.Errorf("Pow(%v, %d) = %v, %t", x.a, x.n, got, ok)
		}
	}
}

func TestPowOfEveryList(t *testing.T) {
	for _, a := range lists() {
		for n := range 36 {
			got, ok := Pow(a, n)
			if !ok || !says(got, new(big.Int).Exp(number(a), big.NewInt(int64(n)), nil)) {
				t.Errorf("Pow(%v, %d) = %v, %t", a, n, got, ok)
			}
		}
	}
}

func TestPowOfZeroAndOneByAnyExponent(t *testing.T) {
	for _, n := range []int{0, 1, 2, 7, MaxWords, MaxWords + 1, 1 << 32, 1 << 62, math.MaxInt} {
		for _, a := range [][]uint32{{1}, {1, 0}, append([]uint32{1}, make([]uint32, 5000)...)} {
			if got, ok := Pow(a, n); !ok || !slices.Equal(got, []uint32{1}) {
				t.Errorf("Pow(1, %d) = %v, %t", n, got, ok)
			}
		}
		want := []uint32{}
		if n == 0 {
			want = []uint32{1}
		}
		for _, a := range [][]uint32{nil, {}, {0}, make([]uint32, 5000)} {
			if got, ok := Pow(a, n); !ok || !slices.Equal(got, want) {
				t.Errorf("Pow(0, %d) = %v, %t", n, got, ok)
			}
		}
	}
}

func TestPowTellsNothingBelowZero(t *testing.T) {
	for _, a := range lists() {
		for _, n := range []int{-1, -2, -MaxWords, math.MinInt} {
			if got, ok := Pow(a, n); ok || len(got) != 0 {
				t.Errorf("Pow(%v, %d) = %v, %t", a, n, got, ok)
			}
		}
	}
}

func TestPowAtMaxWordsAndJustAbove(t *testing.T) {
	if MaxWords != 4096 {
		t.Fatalf("MaxWords = %d", MaxWords)
	}
	for _, x := range []struct {
		words, n int
		ok       bool
	}{
		{1, 4096, true}, {1, 4097, false}, {2, 2048, true}, {2, 2049, false}, {3, 1365, true}, {3, 1366, false},
		{64, 64, true}, {64, 65, false}, {65, 63, true}, {65, 64, false}, {63, 65, true}, {63, 66, false},
		{2048, 2, true}, {2048, 3, false}, {2049, 1, true}, {2049, 2, false}, {4096, 1, true}, {4096, 2, false}, {4097, 0, true}, {4097, 1, false},
		{1, math.MaxInt, false}, {2, 1 << 62, false}, {4, 1 << 62, false}, {4096, 1 << 52, false}, {4096, math.MaxInt, false},
	} {
		// Once with all bits, so that the power is as long as can be, once with few, for it is a's words that count, not the power's.
		for _, a := range [][]uint32{slices.Repeat([]uint32{top}, x.words), append(make([]uint32, x.words-1), 2)} {
			got, ok := Pow(append(a, 0, 0), x.n)
			if ok != x.ok {
				t.Errorf("%d words, to the power %d: %t", x.words, x.n, ok)
			}
			if !x.ok && len(got) != 0 {
				t.Errorf("%d words, to the power %d: %d words beside false", x.words, x.n, len(got))
			}
			if x.ok && !says(got, new(big.Int).Exp(number(a), big.NewInt(int64(x.n)), nil)) {
				t.Errorf("%d words, to the power %d: another number", x.words, x.n)
			}
		}
	}
}

// P3.3

func TestProductsHangOnNoOrder(t *testing.T) {
	pairs(func(a, b []uint32) {
		product := Mul(a, b)
		if !slices.Equal(product, Mul(b, a)) {
			t.Errorf("%v, %v: the products differ", a, b)
		}
		for _, c := range lists() {
			if !slices.Equal(Mul(product, c), Mul(a, Mul(b, c))) {
				t.Errorf("%v, %v, %v: the products differ", a, b, c)
			}
		}
	})
}

func TestSumsAreMultipliedPartByPart(t *testing.T) {
	pairs(func(a, b []uint32) {
		sum := nat.Add(a, b)
		for _, c := range lists() {
			if !slices.Equal(Mul(sum, c), nat.Add(Mul(a, c), Mul(b, c))) || !slices.Equal(Mul(c, sum), nat.Add(Mul(c, a), Mul(c, b))) {
				t.Errorf("(%v + %v) times %v isn't the parts' sum", a, b, c)
			}
		}
		for _, w := range []uint32{0, 1, 10, top} {
			if !slices.Equal(One(sum, w, 0), nat.Add(One(a, w, 0), One(b, w, 0))) {
				t.Errorf("(%v + %v) times %d isn't the parts' sum", a, b, w)
			}
		}
		for _, n := range []int{-3, 0, 31, 32, 33} {
			if !slices.Equal(Shift(sum, n), nat.Add(Shift(a, n), Shift(b, n))) {
				t.Errorf("(%v + %v) up by %d isn't the parts' sum", a, b, n)
			}
		}
	})
}

func TestEveryWayToAProductEndsAtOneNat(t *testing.T) {
	for _, a := range lists() {
		for _, w := range []uint32{0, 1, 10, 1 << 31, top} {
			if !slices.Equal(One(a, w, 9), nat.Add(Mul(a, []uint32{w}), []uint32{9})) {
				t.Errorf("%v times %d, and 9: One and Mul differ", a, w)
			}
		}
		for n := range 70 {
			two, _ := Pow([]uint32{2}, n)
			if !slices.Equal(Shift(a, n), Mul(a, two)) {
				t.Errorf("%v up by %d: Shift and Mul differ", a, n)
			}
		}
		product := nat.Of(1)
		for n := range 12 {
			if power, ok := Pow(a, n); !ok || !slices.Equal(power, product) {
				t.Errorf("%v to the power %d: Pow and Mul differ", a, n)
			}
			product = Mul(product, a)
		}
	}
}

// R5

// answers is what all calls answer of two lists.
func answers(a, b []uint32) [][]uint32 {
	first, _ := Pow(a, 1)
	third, _ := Pow(a, 3)
	none, _ := Pow(a, 0)
	return [][]uint32{One(a, 1, 0), One(a, 5, 6), Mul(a, b), Mul(a, a), Mul(a, []uint32{1}), Shift(a, 0), Shift(a, -1), Shift(a, 33), first, third, none}
}

// spoil writes over all the memory that an answer has, also what lies behind its end.
func spoil(a []uint32) {
	a = a[:cap(a)]
	for i := range a {
		a[i] = 0xdead
	}
}

func TestWhatIsHandedInStaysAsItWas(t *testing.T) {
	pairs(func(a, b []uint32) {
		wasA, wasB := slices.Clone(a), slices.Clone(b)
		answers(a, b)
		if !slices.Equal(a, wasA) || !slices.Equal(b, wasB) {
			t.Errorf("%v, %v became %v, %v", wasA, wasB, a, b)
		}
	})
}

func TestWordsBehindAListStayAsTheyWere(t *testing.T) {
	room := []uint32{top, top, 7, 8}
	answers(room[:2], room[:1])
	for _, x := range answers(room[:2], room[:1]) {
		_ = append(x, 1, 2, 3, 4)
	}
	if !slices.Equal(room, []uint32{top, top, 7, 8}) {
		t.Errorf("room became %v", room)
	}
}

func TestWhatIsAnsweredIsMemoryOfItsOwn(t *testing.T) {
	pairs(func(a, b []uint32) {
		wasA, wasB := slices.Clone(a), slices.Clone(b)
		first, second := answers(a, b), answers(a, b)
		for i := range first {
			was := slices.Clone(second[i])
			spoil(first[i])
			if !slices.Equal(second[i], was) || !slices.Equal(a, wasA) || !slices.Equal(b, wasB) {
				t.Fatalf("%v, %v: answer %d shares memory", wasA, wasB, i)
			}
		}
	})
}

func TestALaterChangeOfWhatWasHandedInIsNotSeen(t *testing.T) {
	a, b := []uint32{3, 4, 0}, []uint32{1}
	got := answers(a, b)
	want := answers([]uint32{3, 4, 0}, []uint32{1})
	a[0], b[0] = 9, 9
	for i := range got {
		if !slices.Equal(got[i], want[i]) {
			t.Errorf("answer %d became %v", i, got[i])
		}
	}
}
