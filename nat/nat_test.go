package nat

import (
	"math/big"
	"slices"
	"testing"
)

const top = 1<<32 - 1

// lists are right ones and others, about the numbers at which words and their count turn over.
func lists() [][]uint32 {
	return [][]uint32{
		nil, {}, {0}, {0, 0}, {0, 0, 0, 0, 0},
		{1}, {1, 0}, {1, 0, 0, 0}, {2}, {7}, {1 << 31}, {1<<31 - 1, 0}, {top - 1}, {top}, {top, 0},
		{0, 1}, {1, 1}, {0, 1, 0}, {5, 1}, {top, 1}, {0, 1 << 31}, {0, top}, {1, top}, {top - 1, top}, {top, top}, {top, top, 0, 0},
		{0, 0, 1}, {1, 0, 1}, {0, 0, 1, 0}, {top, 0, 1}, {0, top, 1}, {top, top, 1}, {top, top, top}, {top, top, top, 0},
		{0, 0, 0, 1}, {3, 1, 4, 1, 5, 9}, {3, 1, 4, 1, 5, 8}, {4, 1, 4, 1, 5, 9}, {3, 1, 4, 1, 5, 9, 0},
		slices.Repeat([]uint32{top}, 40), append(make([]uint32, 40), 1), append(slices.Repeat([]uint32{top}, 40), 0, 0),
	}
}

// number is what a list of words says, reckoned by another means than the package's.
func number(a []uint32) *big.Int {
	n := new(big.Int)
	for _, w := range slices.Backward(a) {
		n.Lsh(n, 32).Or(n, new(big.Int).SetUint64(uint64(w)))
	}
	return n
}

// words is the nat of a number, reckoned by another means than the package's.
func words(n *big.Int) []uint32 {
	var out []uint32
	for n = new(big.Int).Set(n); n.Sign() != 0; n.Rsh(n, 32) {
		out = append(out, uint32(new(big.Int).And(n, big.NewInt(top)).Uint64()))
	}
	return out
}

// pairs calls f with all two of the lists.
func pairs(f func(a, b []uint32)) {
	for _, a := range lists() {
		for _, b := range lists() {
			f(a, b)
		}
	}
}

// P2.1

func TestRightIsWithoutAZeroAtTheEnd(t *testing.T) {
	for _, x := range []struct {
		a    []uint32
		want bool
	}{
		{nil, true}, {[]uint32{}, true}, {[]uint32{1}, true}, {[]uint32{top}, true}, {[]uint32{0, 1}, true}, {[]uint32{0, 0, 9}, true},
		{[]uint32{0}, false}, {[]uint32{0, 0}, false}, {[]uint32{1, 0}, false}, {[]uint32{0, 1, 0}, false}, {[]uint32{top, top, 0, 0}, false},
	} {
		if got := Right(x.a); got != x.want {
			t.Errorf("Right(%v) = %t", x.a, got)
		}
	}
}

func TestTrimLeavesOutZerosAtTheEndAlone(t *testing.T) {
	for _, x := range []struct{ a, want []uint32 }{
		{nil, nil}, {[]uint32{}, nil}, {[]uint32{0}, nil}, {make([]uint32, 100), nil},
		{[]uint32{3, 0, 0}, []uint32{3}}, {[]uint32{0, 2}, []uint32{0, 2}}, {[]uint32{0, 2, 0, 7, 0}, []uint32{0, 2, 0, 7}},
		{[]uint32{1, 2, 3}, []uint32{1, 2, 3}}, {[]uint32{top}, []uint32{top}},
	} {
		if got := Trim(x.a); !slices.Equal(got, x.want) {
			t.Errorf("Trim(%v) = %v", x.a, got)
		}
	}
}

func TestTrimLooksNoFurtherThanTheList(t *testing.T) {
	a := []uint32{4, 0, 9}
	if got := Trim(a[:2]); !slices.Equal(got, []uint32{4}) {
		t.Errorf("Trim = %v", got)
	}
}

func TestOfAndSmallAtOneAndTwoWords(t *testing.T) {
	for _, x := range []struct {
		n    uint64
		want []uint32
	}{
		{0, nil}, {1, []uint32{1}}, {7, []uint32{7}}, {top - 1, []uint32{top - 1}}, {top, []uint32{top}},
		{1 << 32, []uint32{0, 1}}, {1<<32 + 1, []uint32{1, 1}}, {1<<32 + 5, []uint32{5, 1}}, {1<<33 - 1, []uint32{top, 1}},
		{1 << 63, []uint32{0, 1 << 31}}, {1<<64 - 1<<32, []uint32{0, top}}, {1<<64 - 2, []uint32{top - 1, top}}, {1<<64 - 1, []uint32{top, top}},
	} {
		if got := Of(x.n); !slices.Equal(got, x.want) {
			t.Errorf("Of(%d) = %v", x.n, got)
		}
		for zeros := range 4 {
			a := slices.Concat(x.want, make([]uint32, zeros))
			if n, ok := Small(a); n != x.n || !ok {
				t.Errorf("Small(%v) = %d, %t, not %d", a, n, ok, x.n)
			}
		}
	}
}

func TestSmallTellsNothingFromTwoToThe64On(t *testing.T) {
	for _, a := range [][]uint32{{0, 0, 1}, {1, 0, 1}, {7, 7, 1, 0}, {top, top, top}, {0, 0, 0, 1}, {5, 0, 0, 1, 0, 0}, append(make([]uint32, 50), 1)} {
		if n, ok := Small(a); n != 0 || ok {
			t.Errorf("Small(%v) = %d, %t", a, n, ok)
		}
	}
}

func TestBitsOfEveryLength(t *testing.T) {
	for _, a := range [][]uint32{nil, {}, {0}, {0, 0, 0}} {
		if n := Bits(a); n != 0 {
			t.Errorf("Bits(%v) = %d", a, n)
		}
	}
	for n := 1; n <= 200; n++ {
		least := new(big.Int).Lsh(big.NewInt(1), uint(n-1))
		most := new(big.Int).Sub(new(big.Int).Lsh(big.NewInt(1), uint(n)), big.NewInt(1))
		for _, a := range [][]uint32{words(least), words(most), append(words(least), 0), append(words(most), 0, 0)} {
			if got := Bits(a); got != n {
				t.Errorf("Bits(%v) = %d, not %d", a, got, n)
			}
		}
	}
}

func TestOneListAtATime(t *testing.T) {
	for _, a := range lists() {
		n := number(a)
		if got, want := Right(a), len(a) == len(words(n)); got != want {
			t.Errorf("Right(%v) = %t", a, got)
		}
		if got := Trim(a); !slices.Equal(got, words(n)) {
			t.Errorf("Trim(%v) = %v", a, got)
		}
		if got := Bits(a); got != n.BitLen() {
			t.Errorf("Bits(%v) = %d", a, got)
		}
		want := uint64(0)
		if n.IsUint64() {
			want = n.Uint64()
		}
		if got, ok := Small(a); ok != n.IsUint64() || got != want {
			t.Errorf("Small(%v) = %d, %t", a, got, ok)
		}
	}
}

// P2.2

func TestCmp(t *testing.T) {
	for _, x := range []struct {
		a, b []uint32
		want int
	}{
		{nil, nil, 0}, {nil, []uint32{}, 0}, {nil, []uint32{0, 0}, 0}, {[]uint32{0}, nil, 0},
		{nil, []uint32{1}, -1}, {[]uint32{0, 0, 0}, []uint32{1}, -1}, {[]uint32{1}, []uint32{0, 0, 0}, 1},
		{[]uint32{1}, []uint32{1, 0}, 0}, {[]uint32{1, 0, 0}, []uint32{1, 0}, 0},
		{[]uint32{1, 2}, []uint32{2, 1}, 1}, {[]uint32{2, 1}, []uint32{1, 2}, -1},
		{[]uint32{9}, []uint32{0, 1}, -1}, {[]uint32{top, 0}, []uint32{0, 1}, -1}, {[]uint32{0, 1}, []uint32{top, 0, 0}, 1},
		{[]uint32{0}, []uint32{top}, -1}, {[]uint32{1 << 31}, []uint32{1<<31 - 1}, 1},
		{[]uint32{0, 5, 1}, []uint32{9, 4, 1}, 1}, {[]uint32{8, 4, 1}, []uint32{9, 4, 1}, -1},
	} {
		if got := Cmp(x.a, x.b); got != x.want {
			t.Errorf("Cmp(%v, %v) = %d", x.a, x.b, got)
		}
	}
}

func TestAdd(t *testing.T) {
	for _, x := range []struct{ a, b, want []uint32 }{
		{nil, nil, nil}, {nil, []uint32{0}, nil}, {[]uint32{0, 0}, []uint32{0}, nil},
		{[]uint32{7}, nil, []uint32{7}}, {nil, []uint32{7, 0}, []uint32{7}}, {[]uint32{7}, []uint32{8}, []uint32{15}},
		{[]uint32{top}, []uint32{1}, []uint32{0, 1}}, {[]uint32{1}, []uint32{top, 0}, []uint32{0, 1}},
		{[]uint32{top - 1}, []uint32{1}, []uint32{top}}, {[]uint32{1 << 31}, []uint32{1 << 31}, []uint32{0, 1}},
		{[]uint32{top, top}, []uint32{1}, []uint32{0, 0, 1}}, {[]uint32{1, 0, 0}, []uint32{top, top}, []uint32{0, 0, 1}},
		{[]uint32{top, top}, []uint32{top, top}, []uint32{top - 1, top, 1}},
		{[]uint32{top, 5, 6}, []uint32{1}, []uint32{0, 6, 6}}, {[]uint32{0, 0, 0, 1}, []uint32{2, 3}, []uint32{2, 3, 0, 1}},
		{[]uint32{0, top, top, 8}, []uint32{5, 1}, []uint32{5, 0, 0, 9}},
	} {
		if got := Add(x.a, x.b); !slices.Equal(got, x.want) {
			t.Errorf("Add(%v, %v) = %v", x.a, x.b, got)
		}
	}
}

func TestAddCarriesThroughEveryWord(t *testing.T) {
	for n := 1; n <= 70; n++ {
		all, want := slices.Repeat([]uint32{top}, n), append(make([]uint32, n), 1)
		if got := Add(all, []uint32{1}); !slices.Equal(got, want) {
			t.Errorf("of %d words, and 1: %v", n, got)
		}
		if got := Add([]uint32{1}, all); !slices.Equal(got, want) {
			t.Errorf("1, and of %d words: %v", n, got)
		}
		if back, ok := Sub(want, []uint32{1}); !ok || !slices.Equal(back, all) {
			t.Errorf("of %d words, less 1: %v, %t", n+1, back, ok)
		}
	}
}

func TestSub(t *testing.T) {
	for _, x := range []struct{ a, b, want []uint32 }{
		{nil, nil, nil}, {nil, []uint32{0, 0}, nil}, {[]uint32{0}, nil, nil},
		{[]uint32{7}, nil, []uint32{7}}, {[]uint32{7, 0}, []uint32{0}, []uint32{7}}, {[]uint32{15}, []uint32{8}, []uint32{7}},
		{[]uint32{4, 0}, []uint32{4, 0, 0}, nil}, {[]uint32{1, 2, 3}, []uint32{1, 2, 3}, nil},
		{[]uint32{0, 1}, []uint32{1}, []uint32{top}}, {[]uint32{0, 1}, []uint32{top}, []uint32{1}},
		{[]uint32{0, 0, 1}, []uint32{1}, []uint32{top, top}}, {[]uint32{0, 0, 1}, []uint32{top, top}, []uint32{1}},
		{[]uint32{9, 2, 3}, []uint32{8, 2, 3}, []uint32{1}}, {[]uint32{9, 2, 3}, []uint32{9, 1, 3}, []uint32{0, 1}},
		{[]uint32{0, 6, 6}, []uint32{1}, []uint32{top, 5, 6}}, {[]uint32{5, 0, 0, 9}, []uint32{5, 1}, []uint32{0, top, top, 8}},
	} {
		if got, ok := Sub(x.a, x.b); !ok || !slices.Equal(got, x.want) {
			t.Errorf("Sub(%v, %v) = %v, %t", x.a, x.b, got, ok)
		}
	}
}

func TestSubTellsNothingIfBIsAboveA(t *testing.T) {
	for _, x := range []struct{ a, b []uint32 }{
		{nil, []uint32{1}}, {[]uint32{0, 0, 0}, []uint32{1}}, {[]uint32{7}, []uint32{8}}, {[]uint32{1}, []uint32{0, 1}},
		{[]uint32{top, 0, 0}, []uint32{0, 1}}, {[]uint32{top, top}, []uint32{0, 0, 1}}, {[]uint32{9, 1}, []uint32{1, 2}}, {[]uint32{8, 4, 1}, []uint32{9, 4, 1, 0}},
	} {
		if got, ok := Sub(x.a, x.b); ok || len(got) != 0 {
			t.Errorf("Sub(%v, %v) = %v, %t", x.a, x.b, got, ok)
		}
	}
}

func TestTwoListsAtATime(t *testing.T) {
	pairs(func(a, b []uint32) {
		m, n := number(a), number(b)
		if got := Cmp(a, b); got != m.Cmp(n) {
			t.Errorf("Cmp(%v, %v) = %d", a, b, got)
		}
		if got := Add(a, b); !slices.Equal(got, words(new(big.Int).Add(m, n))) {
			t.Errorf("Add(%v, %v) = %v", a, b, got)
		}
		got, ok := Sub(a, b)
		if ok != (m.Cmp(n) >= 0) {
			t.Fatalf("Sub(%v, %v): %t", a, b, ok)
		}
		var want []uint32
		if ok {
			want = words(new(big.Int).Sub(m, n))
		}
		if !slices.Equal(got, want) {
			t.Errorf("Sub(%v, %v) = %v", a, b, got)
		}
	})
}

// P2.3

func TestEachNumberIsOneNat(t *testing.T) {
	pairs(func(a, b []uint32) {
		if one := slices.Equal(Trim(a), Trim(b)); one != (Cmp(a, b) == 0) {
			t.Errorf("%v and %v: one nat %t, Cmp %d", a, b, one, Cmp(a, b))
		}
	})
}

func TestWhatIsAnsweredIsRight(t *testing.T) {
	for _, n := range []uint64{0, 1, top, 1 << 32, 1<<32 + 5, 1<<64 - 1} {
		if !Right(Of(n)) {
			t.Errorf("Of(%d) isn't right", n)
		}
	}
	pairs(func(a, b []uint32) {
		d, _ := Sub(a, b)
		if !Right(Trim(a)) || !Right(Add(a, b)) || !Right(d) {
			t.Errorf("%v, %v: an answer isn't right", a, b)
		}
	})
}

func TestEveryWayToANumberEndsAtOneNat(t *testing.T) {
	pairs(func(a, b []uint32) {
		sum := Add(a, b)
		if !slices.Equal(sum, Add(b, a)) {
			t.Errorf("%v, %v: the sums differ", a, b)
		}
		if back, ok := Sub(sum, b); !ok || !slices.Equal(back, Trim(a)) {
			t.Errorf("%v, %v: sum %v, and back %v, %t", a, b, sum, back, ok)
		}
		if n, ok := Small(sum); ok && !slices.Equal(Of(n), sum) {
			t.Errorf("%v, %v: sum %v, Of(%d) %v", a, b, sum, n, Of(n))
		}
	})
}

// R5

func TestWhatIsHandedInStaysAsItWas(t *testing.T) {
	pairs(func(a, b []uint32) {
		wasA, wasB := slices.Clone(a), slices.Clone(b)
		Right(a)
		Trim(a)
		Small(a)
		Bits(a)
		Cmp(a, b)
		Add(a, b)
		Sub(a, b)
		if !slices.Equal(a, wasA) || !slices.Equal(b, wasB) {
			t.Errorf("%v, %v became %v, %v", wasA, wasB, a, b)
		}
	})
}

func TestWordsBehindAListStayAsTheyWere(t *testing.T) {
	room := []uint32{top, top, 7, 8}
	a := room[:2]
	Add(a, a)
	Sub(a, a)
	_ = append(Trim(a), 1)
	if !slices.Equal(room, []uint32{top, top, 7, 8}) {
		t.Errorf("room became %v", room)
	}
}

// spoil writes over all the memory that an answer has, also what lies behind its end.
func spoil(a []uint32) {
	a = a[:cap(a)]
	for i := range a {
		a[i] = 0xdead
	}
}

func TestWhatIsAnsweredIsMemoryOfItsOwn(t *testing.T) {
	pairs(func(a, b []uint32) {
		wasA, wasB := slices.Clone(a), slices.Clone(b)
		first := [][]uint32{Trim(a), Add(a, b), Of(5), nil}
		first[3], _ = Sub(a, b)
		second := [][]uint32{Trim(a), Add(a, b), Of(5), nil}
		second[3], _ = Sub(a, b)
		for i := range first {
			was := slices.Clone(second[i])
			spoil(first[i])
			if !slices.Equal(second[i], was) || !slices.Equal(a, wasA) || !slices.Equal(b, wasB) {
				t.Fatalf("%v, %v: answer %d shares memory", wasA, wasB, i)
			}
		}
	})
}

func TestALaterChangeOfWhatWasHandedInIsNotSeen(t *testing.T) {
	a := []uint32{3, 4, 0}
	own, sum := Trim(a), Add(a, nil)
	diff, _ := Sub(a, nil)
	a[0] = 9
	for i, x := range [][]uint32{own, sum, diff} {
		if !slices.Equal(x, []uint32{3, 4}) {
			t.Errorf("answer %d became %v", i, x)
		}
	}
}
