package split

import (
	"math/big"
	"slices"
	"testing"

	"talweg/nat"
	"talweg/times"
)

const top = 1<<32 - 1

// lists are right ones and others, about the numbers at which words and their count turn over.
func lists() [][]uint32 {
	return [][]uint32{
		nil, {}, {0}, {0, 0, 0},
		{1}, {1, 0}, {1, 0, 0, 0}, {2}, {3, 0}, {10}, {1 << 16}, {1 << 31}, {1<<31 - 1, 0}, {1<<31 + 1}, {top - 1}, {top}, {top, 0},
		{0, 1}, {1, 1}, {0, 1, 0}, {5, 1}, {top, 1}, {0, 1 << 31}, {top, 1 << 31}, {top, 1<<31 - 1}, {0, top}, {1, top}, {top, top}, {top, top, 0, 0},
		{0, 0, 1}, {0, 0, 1, 0}, {top, 0, 1}, {0, top, 1}, {top, top, 1}, {1, 0, 1 << 31}, {top, 0, 1 << 31}, {top, top, 1 << 31}, {0, 0, 1 << 29}, {top, top, top}, {top, 0, top, 0, top},
		{0, 1 << 31, 3}, {0, 0, 1 << 31, 1<<31 - 1}, {1, 0, top - 1, top}, {0, top - 1, 1 << 31, 0},
		{3, 1, 4, 1, 5, 9}, {3, 1, 4, 1, 5, 9, 0}, {0, 0, 0, 7, 0, 0, 8},
		slices.Repeat([]uint32{top}, 40), append(make([]uint32, 40), 1), append(slices.Repeat([]uint32{top}, 33), 0, 0),
	}
}

// number is what a list of words says, reckoned by another means than the package's.
func number(a []uint32) *big.Int {
	n := new(big.Int)
	for _, w := range slices.Backward(a) {
		n.Lsh(n, 32).Or(n, new(big.Int).SetUint64(uint64(w)))
	}
	return n
}

// words is a number's nat.
func words(n *big.Int) []uint32 {
	var list []uint32
	low := big.NewInt(top)
	for n = new(big.Int).Set(n); n.Sign() > 0; n.Rsh(n, 32) {
		list = append(list, uint32(new(big.Int).And(n, low).Uint64()))
	}
	return list
}

// says tells whether an answer is a number's nat.
func says(a []uint32, n *big.Int) bool { return nat.Right(a) && number(a).Cmp(n) == 0 }

// mixed is a list of words without a pattern that counts.
func mixed(n int, seed uint32) []uint32 {
	list := make([]uint32, n)
	for i := range list {
		seed = seed*1664525 + 1013904223
		list[i] = seed ^ seed>>15
	}
	return list
}

// pairs calls f with all two of the lists.
func pairs(f func(a, b []uint32)) {
	for _, a := range lists() {
		for _, b := range lists() {
			f(a, b)
		}
	}
}

// divides holds one quotient against math/big's.
func divides(t *testing.T, a, b []uint32) {
	t.Helper()
	q, r, ok := Div(a, b)
	if number(b).Sign() == 0 {
		if ok || len(q) != 0 || len(r) != 0 {
			t.Errorf("Div(%v, %v) = %v, %v, %t", a, b, q, r, ok)
		}
		return
	}
	wantQ, wantR := new(big.Int).QuoRem(number(a), number(b), new(big.Int))
	if !ok || !says(q, wantQ) || !says(r, wantR) {
		t.Errorf("Div(%v, %v) = %v, %v, %t", a, b, q, r, ok)
	}
}

// P4.1

func TestSmall(t *testing.T) {
	for _, x := range []struct {
		a    []uint32
		d    uint32
		want []uint32
		left uint32
	}{
		{[]uint32{0, 1}, 10, []uint32{429496729}, 6}, {nil, 7, nil, 0}, {[]uint32{0, 0}, 7, nil, 0}, {nil, 1, nil, 0}, {nil, top, nil, 0},
		{[]uint32{7}, 7, []uint32{1}, 0}, {[]uint32{6}, 7, nil, 6}, {[]uint32{8, 0}, 7, []uint32{1}, 1}, {[]uint32{3, 4, 0}, 1, []uint32{3, 4}, 0},
		{[]uint32{top}, 1 << 31, []uint32{1}, 1<<31 - 1}, {[]uint32{top - 1}, top, nil, top - 1}, {[]uint32{0, 0, 1}, top, []uint32{1, 1}, 1},
		{[]uint32{top, top}, top, []uint32{1, 1}, 0}, {[]uint32{top, top - 1}, top, []uint32{top}, top - 1}, {[]uint32{5, 6}, 6, []uint32{0, 1}, 5},
	} {
		if q, r, ok := Small(x.a, x.d); !ok || !slices.Equal(q, x.want) || r != x.left {
			t.Errorf("Small(%v, %d) = %v, %d, %t", x.a, x.d, q, r, ok)
		}
	}
}

func TestSmallOfEveryList(t *testing.T) {
	for _, a := range lists() {
		for _, d := range []uint32{1, 2, 3, 10, 1 << 16, 1<<31 - 1, 1 << 31, 1<<31 + 1, 1000000000, top - 1, top} {
			wantQ, wantR := new(big.Int).QuoRem(number(a), big.NewInt(int64(d)), new(big.Int))
			if q, r, ok := Small(a, d); !ok || !says(q, wantQ) || uint64(r) != wantR.Uint64() {
				t.Errorf("Small(%v, %d) = %v, %d, %t", a, d, q, r, ok)
			}
		}
	}
}

func TestNothingIsDividedByZero(t *testing.T) {
	for _, a := range lists() {
		if q, r, ok := Small(a, 0); ok || len(q) != 0 || r != 0 {
			t.Errorf("Small(%v, 0) = %v, %d, %t", a, q, r, ok)
		}
		for _, b := range [][]uint32{nil, {}, {0}, {0, 0, 0}} {
			if q, r, ok := Div(a, b); ok || len(q) != 0 || len(r) != 0 {
				t.Errorf("Div(%v, %v) = %v, %v, %t", a, b, q, r, ok)
			}
		}
	}
}

func TestDiv(t *testing.T) {
	for _, x := range []struct{ a, b, want, left []uint32 }{
		{[]uint32{7}, []uint32{7}, []uint32{1}, nil}, {[]uint32{3}, []uint32{0, 1}, nil, []uint32{3}}, {nil, []uint32{5}, nil, nil}, {[]uint32{0, 0}, []uint32{5, 6}, nil, nil},
		{[]uint32{10, 0}, []uint32{3, 0}, []uint32{3}, []uint32{1}}, {[]uint32{5, 6, 0}, []uint32{1, 0, 0}, []uint32{5, 6}, nil},
		{[]uint32{0, 0, 1}, []uint32{top}, []uint32{1, 1}, []uint32{1}}, {[]uint32{0, 0, 0, 1}, []uint32{1, 0, 1}, []uint32{top}, []uint32{1, top}},
		{[]uint32{1, 0, top - 1, top}, []uint32{top, top}, []uint32{top, top}, nil}, {[]uint32{0, 0, 0, 6}, []uint32{0, 0, 3}, []uint32{0, 2}, nil},
		{[]uint32{4, 13, 22, 15}, []uint32{4, 5}, []uint32{1, 2, 3}, nil}, {[]uint32{9, 0, 0}, []uint32{0, 9, 0}, nil, []uint32{9}},
	} {
		if q, r, ok := Div(x.a, x.b); !ok || !slices.Equal(q, x.want) || !slices.Equal(r, x.left) {
			t.Errorf("Div(%v, %v) = %v, %v, %t", x.a, x.b, q, r, ok)
		}
	}
}

func TestDivOfEveryTwo(t *testing.T) {
	pairs(func(a, b []uint32) { divides(t, a, b) })
}

func TestDivByOneAndByNumbersAboutItself(t *testing.T) {
	one := []uint32{1}
	for _, a := range lists() {
		if q, r, ok := Div(a, one); !ok || !slices.Equal(q, nat.Trim(a)) || len(r) != 0 {
			t.Errorf("%v by 1: %v, %v, %t", a, q, r, ok)
		}
		above := nat.Add(a, one)
		if q, r, ok := Div(a, above); !ok || len(q) != 0 || !slices.Equal(r, nat.Trim(a)) {
			t.Errorf("%v by one more: %v, %v, %t", a, q, r, ok)
		}
		if nat.Bits(a) == 0 {
			continue
		}
		if q, r, ok := Div(a, a); !ok || !slices.Equal(q, one) || len(r) != 0 {
			t.Errorf("%v by itself: %v, %v, %t", a, q, r, ok)
		}
		below, _ := nat.Sub(a, one)
		divides(t, a, below)
	}
}

func TestDivAboutEveryProduct(t *testing.T) {
	one := []uint32{1}
	pairs(func(a, b []uint32) {
		if nat.Bits(b) == 0 {
			return
		}
		product := times.Mul(a, b)
		if q, r, ok := Div(product, b); !ok || !slices.Equal(q, nat.Trim(a)) || len(r) != 0 {
			t.Errorf("%v times %v, divided again: %v, %v, %t", a, b, q, r, ok)
		}
		least, _ := nat.Sub(b, one)
		if q, r, ok := Div(nat.Add(product, least), b); !ok || !slices.Equal(q, nat.Trim(a)) || !slices.Equal(r, least) {
			t.Errorf("%v times %v, and one less than that: %v, %v, %t", a, b, q, r, ok)
		}
		divides(t, nat.Add(product, b), b)
	})
}

func TestGuessesThatAreTooGreat(t *testing.T) {
	// How much the highest words guess too much, of numbers of one digit, with divisors that have their highest bit.
	var seen [3]int
	for _, x := range []struct {
		head, b []uint32
		over    uint32
	}{
		{[]uint32{0, 6, 1}, []uint32{0, 1 << 31}, 0}, {[]uint32{1, 0, 1}, []uint32{1, 1 << 31}, 1}, {[]uint32{0, 0, 1}, []uint32{top, 1 << 31}, 1},
		{[]uint32{0, 0, 1 << 30}, []uint32{top, 1 << 31}, 1}, {[]uint32{0, 0, 1<<31 - 1}, []uint32{top, 1 << 31}, 2}, {[]uint32{0, top, 1<<31 - 1}, []uint32{top, 1 << 31}, 1},
		{[]uint32{top - 1, 0, 1 << 31}, []uint32{top, 1 << 31}, 1}, {[]uint32{0, 0, top - 1, 1<<31 - 1}, []uint32{top, top, 1 << 31}, 1},
		{[]uint32{0, 0, 1, 1<<31 - 1}, []uint32{top, top, 1 << 31}, 2}, {[]uint32{0, 0, 1 << 31, 1<<31 - 1}, []uint32{1, 0, 1 << 31}, 1},
		{[]uint32{3, 0, 1 << 31, 1<<31 - 1}, []uint32{1, 0, 1 << 31}, 1}, {[]uint32{0, top, top, 1<<31 - 1}, []uint32{1, 0, 1 << 31}, 0},
	} {
		q, _ := new(big.Int).QuoRem(number(x.head), number(x.b), new(big.Int))
		over := uint64(firstGuess(x.head, x.b)) - q.Uint64()
		if over != uint64(x.over) {
			t.Errorf("%v by %v: the guess is too great by %d", x.head, x.b, over)
			continue
		}
		seen[over]++
		divides(t, x.head, x.b)
		// The same digit, come by in the midst of others, and with divisors that have to go up.
		divides(t, append([]uint32{7, top}, x.head...), x.b)
		for _, c := range lists() {
			divides(t, nat.Add(x.head, c), x.b)
		}
	}
	if slices.Contains(seen[:], 0) {
		t.Errorf("guesses right at once, by one, and by two: %v", seen)
	}
}

func TestDivByHighestWordsOfEveryBit(t *testing.T) {
	for bit := range 32 {
		for _, high := range []uint32{1 << bit, 1<<bit + 1<<bit>>1, 1<<bit | (1<<bit - 1)} {
			for _, b := range [][]uint32{{high}, {0, high}, {1, high}, {top, high}, {top, top, high}, {1, 0, 0, high}} {
				for _, a := range [][]uint32{{top, top, top, top, top, top}, {0, 0, 0, 0, 0, high}, {0, 0, top, high - 1}, {top, 0, top, high, 0}, mixed(9, high)} {
					divides(t, a, b)
				}
			}
		}
	}
}

func TestDivOfManyWords(t *testing.T) {
	for n := range 60 {
		for m := range 30 {
			divides(t, mixed(n, uint32(n*m)), mixed(m, uint32(n+m)))
		}
	}
	divides(t, mixed(2000, 1), mixed(700, 2))
	divides(t, mixed(2000, 3), mixed(1999, 4))
	divides(t, slices.Repeat([]uint32{top}, 900), slices.Repeat([]uint32{top}, 451))
}

// P4.2

func TestHalf(t *testing.T) {
	for _, x := range []struct {
		a, want []uint32
		odd     bool
	}{
		{nil, nil, false}, {[]uint32{0, 0}, nil, false}, {[]uint32{1}, nil, true}, {[]uint32{1, 0}, nil, true}, {[]uint32{2}, []uint32{1}, false}, {[]uint32{3}, []uint32{1}, true},
		{[]uint32{top}, []uint32{1<<31 - 1}, true}, {[]uint32{0, 1}, []uint32{1 << 31}, false}, {[]uint32{1, 1}, []uint32{1 << 31}, true},
		{[]uint32{0, 2}, []uint32{0, 1}, false}, {[]uint32{6, 3, 0}, []uint32{1<<31 + 3, 1}, false}, {[]uint32{7, 3, 1}, []uint32{1<<31 + 3, 1<<31 + 1}, true},
		{[]uint32{top, top, top}, []uint32{top, top, 1<<31 - 1}, true}, {[]uint32{0, 0, 0, 1}, []uint32{0, 0, 1 << 31}, false},
	} {
		if h, odd := Half(x.a); !slices.Equal(h, x.want) || odd != x.odd {
			t.Errorf("Half(%v) = %v, %t", x.a, h, odd)
		}
	}
	for _, a := range lists() {
		if h, odd := Half(a); !says(h, new(big.Int).Rsh(number(a), 1)) || odd != (number(a).Bit(0) == 1) {
			t.Errorf("Half(%v) = %v, %t", a, h, odd)
		}
	}
}

func TestRoot(t *testing.T) {
	for _, x := range []struct{ a, want []uint32 }{
		{nil, nil}, {[]uint32{0, 0}, nil}, {[]uint32{1}, []uint32{1}}, {[]uint32{2, 0}, []uint32{1}}, {[]uint32{3}, []uint32{1}}, {[]uint32{4}, []uint32{2}},
		{[]uint32{24}, []uint32{4}}, {[]uint32{25}, []uint32{5}}, {[]uint32{26}, []uint32{5}}, {[]uint32{top}, []uint32{65535}}, {[]uint32{0, 1}, []uint32{65536}}, {[]uint32{1, 1}, []uint32{65536}},
		{[]uint32{0, 0, 1}, []uint32{0, 1}}, {[]uint32{top, top}, []uint32{top}}, {[]uint32{1, top - 1}, []uint32{top}}, {[]uint32{0, top - 1}, []uint32{top - 1}},
		{[]uint32{top, top, top, top}, []uint32{top, top}}, {[]uint32{0, 0, 0, 0, 1}, []uint32{0, 0, 1}},
	} {
		if got := Root(x.a); !slices.Equal(got, x.want) {
			t.Errorf("Root(%v) = %v", x.a, got)
		}
	}
	for _, a := range lists() {
		if got := Root(a); !says(got, new(big.Int).Sqrt(number(a))) {
			t.Errorf("Root(%v) = %v", a, got)
		}
	}
	for n := range int64(3000) {
		if got := Root(words(big.NewInt(n))); !says(got, new(big.Int).Sqrt(big.NewInt(n))) {
			t.Errorf("Root(%d) = %v", n, got)
		}
	}
}

func TestRootAboutSquares(t *testing.T) {
	one := []uint32{1}
	for _, a := range append(lists(), mixed(17, 5), mixed(64, 6)) {
		if nat.Bits(a) == 0 {
			continue
		}
		square := times.Mul(a, a)
		below, _ := nat.Sub(square, one)
		less, _ := nat.Sub(a, one)
		last := nat.Add(square, nat.Add(a, a))
		if got := Root(square); !slices.Equal(got, nat.Trim(a)) {
			t.Errorf("the root of the square of %v: %v", a, got)
		}
		if got := Root(below); !slices.Equal(got, less) {
			t.Errorf("the root of one below the square of %v: %v", a, got)
		}
		// Of 1, one above its square is still below the next one.
		if got := Root(nat.Add(square, one)); !slices.Equal(got, nat.Trim(a)) {
			t.Errorf("the root of one above the square of %v: %v", a, got)
		}
		if got := Root(last); !slices.Equal(got, nat.Trim(a)) {
			t.Errorf("the root of the last one below the next square, of %v: %v", a, got)
		}
	}
}

func TestRootOfManyWords(t *testing.T) {
	for _, n := range []int{1, 2, 3, 4, 5, 6, 7, 8, 9, 15, 16, 17, 31, 32, 33, 100, 3333, 6600} {
		for _, a := range [][]uint32{mixed(n, 9), slices.Repeat([]uint32{top}, n), append(make([]uint32, n-1), 1)} {
			if got := Root(a); !says(got, new(big.Int).Sqrt(number(a))) {
				t.Errorf("%d words: another root", n)
			}
		}
	}
}

// P4.3

func TestWhatGoesInAndWhatIsLeftAreWhatItWas(t *testing.T) {
	pairs(func(a, b []uint32) {
		q, r, ok := Div(a, b)
		if !ok {
			return
		}
		if nat.Cmp(nat.Add(times.Mul(q, b), r), a) != 0 || nat.Cmp(r, b) >= 0 {
			t.Errorf("Div(%v, %v) = %v, %v: not what it was", a, b, q, r)
		}
	})
	for _, a := range lists() {
		for _, d := range []uint32{1, 2, 10, 1 << 31, top} {
			q, r, ok := Small(a, d)
			if !ok || nat.Cmp(times.One(q, d, r), a) != 0 || r >= d {
				t.Errorf("Small(%v, %d) = %v, %d: not what it was", a, d, q, r)
			}
			other, left, _ := Div(a, []uint32{d, 0})
			if !slices.Equal(q, other) || !slices.Equal(left, nat.Of(uint64(r))) {
				t.Errorf("%v by %d: Small and Div differ", a, d)
			}
		}
		h, odd := Half(a)
		bit := []uint32{0}
		if odd {
			bit[0] = 1
		}
		if nat.Cmp(nat.Add(times.Shift(h, 1), bit), a) != 0 {
			t.Errorf("Half(%v) = %v, %t: not what it was", a, h, odd)
		}
		root := Root(a)
		next := nat.Add(root, []uint32{1})
		if nat.Cmp(times.Mul(root, root), a) > 0 || nat.Cmp(times.Mul(next, next), a) <= 0 {
			t.Errorf("Root(%v) = %v: not the greatest one", a, root)
		}
	}
}

// R5

// answers is what all calls answer of two lists.
func answers(a, b []uint32) [][]uint32 {
	var all [][]uint32
	for _, d := range []uint32{0, 1, 7} {
		q, _, _ := Small(a, d)
		all = append(all, q)
	}
	for _, by := range [][]uint32{b, a, {1}, append([]uint32{0}, a...)} {
		q, r, _ := Div(a, by)
		all = append(all, q, r)
	}
	h, _ := Half(a)
	return append(all, h, Root(a))
}

// spoil writes over all the memory that an answer has, also what lies behind its end.
func spoil(a []uint32) {
	a = a[:cap(a)]
	for i := range a {
		a[i] = 0xdead
	}
}

func TestWhatIsHandedInStaysAsItWas(t *testing.T) {
	pairs(func(a, b []uint32) {
		wasA, wasB := slices.Clone(a), slices.Clone(b)
		answers(a, b)
		if !slices.Equal(a, wasA) || !slices.Equal(b, wasB) {
			t.Errorf("%v, %v became %v, %v", wasA, wasB, a, b)
		}
	})
}

func TestWordsBehindAListStayAsTheyWere(t *testing.T) {
	room := []uint32{top, top, 7, 8}
	for _, x := range answers(room[:2], room[:1]) {
		_ = append(x, 1, 2, 3, 4)
	}
	if !slices.Equal(room, []uint32{top, top, 7, 8}) {
		t.Errorf("room became %v", room)
	}
}

func TestWhatIsAnsweredIsMemoryOfItsOwn(t *testing.T) {
	pairs(func(a, b []uint32) {
		wasA, wasB := slices.Clone(a), slices.Clone(b)
		first, second := answers(a, b), answers(a, b)
		for i := range first {
			spoil(first[i])
			if !slices.Equal(a, wasA) || !slices.Equal(b, wasB) {
				t.Fatalf("%v, %v: answer %d shares memory with what was handed in", wasA, wasB, i)
			}
			// The answers that aren't spoilt yet must be as they are when asked again.
			for k := i + 1; k < len(first); k++ {
				if !slices.Equal(first[k], second[k]) {
					t.Fatalf("%v, %v: answers %d and %d share memory", wasA, wasB, i, k)
				}
			}
		}
	})
}

func TestALaterChangeOfWhatWasHandedInIsNotSeen(t *testing.T) {
	a, b := []uint32{3, 4, 0}, []uint32{1}
	got := answers(a, b)
	want := answers([]uint32{3, 4, 0}, []uint32{1})
	a[0], b[0] = 9, 9
	for i := range got {
		if !slices.Equal(got[i], want[i]) {
			t.Errorf("answer %d became %v", i, got[i])
		}
	}
}
