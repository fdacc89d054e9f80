package limb

import (
	"math/big"
	"slices"
	"strconv"
	"testing"
)

const top = 1<<32 - 1

// edges are words at which carries, borrows and quotients turn over.
var edges = []uint32{0, 1, 2, 3, 7, 1<<16 - 1, 1 << 16, 0x12345678, 1<<31 - 1, 1 << 31, 1<<31 + 1, top - 2, top - 1, top}

// number is hi times 2^32, and lo, where nothing wraps round.
func number(hi, lo uint32) *big.Int {
	n := new(big.Int).Lsh(new(big.Int).SetUint64(uint64(hi)), 32)
	return n.Add(n, word(lo))
}

func word(a uint32) *big.Int { return new(big.Int).SetUint64(uint64(a)) }

// triples calls f with all three of the edges.
func triples(f func(a, b, c uint32)) {
	for _, a := range edges {
		for _, b := range edges {
			for _, c := range edges {
				f(a, b, c)
			}
		}
	}
}

// P1.1

func TestAddTellsSumAndCarry(t *testing.T) {
	for _, x := range []struct{ a, b, c, sum, carry uint32 }{
		{0, 0, 0, 0, 0},
		{7, 8, 9, 24, 0},
		{top, 0, 0, top, 0},
		{0, top, 0, top, 0},
		{0, 0, top, top, 0},
		{top, 1, 0, 0, 1},
		{top, 1, 1, 1, 1},
		{top, 0, 1, 0, 1},
		{1 << 31, 1 << 31, top, top, 1},
		{top, top, 0, top - 1, 1},
		{top, top, 1, top, 1},
		{top, top, 2, 0, 2},
		{top, top, top, top - 2, 2},
	} {
		if sum, carry := Add(x.a, x.b, x.c); sum != x.sum || carry != x.carry {
			t.Errorf("Add(%d, %d, %d) = %d, %d, not %d, %d", x.a, x.b, x.c, sum, carry, x.sum, x.carry)
		}
	}
}

func TestAddIsExactAtTheEdges(t *testing.T) {
	triples(func(a, b, c uint32) {
		want := new(big.Int).Add(word(a), word(b))
		want.Add(want, word(c))
		if sum, carry := Add(a, b, c); number(carry, sum).Cmp(want) != 0 {
			t.Errorf("Add(%d, %d, %d) = %d, %d, not %v", a, b, c, sum, carry, want)
		}
	})
}

func TestSubTellsDifferenceAndBorrow(t *testing.T) {
	for _, x := range []struct{ a, b, c, diff, borrow uint32 }{
		{0, 0, 0, 0, 0},
		{24, 8, 9, 7, 0},
		{top, top, 0, 0, 0},
		{top, 0, top, 0, 0},
		{top, top, 1, top, 1},
		{0, 1, 0, top, 1},
		{0, 0, 1, top, 1},
		{0, top, 0, 1, 1},
		{0, top, 1, 0, 1},
		{0, top, 2, top, 2},
		{0, top, top, 2, 2},
		{top - 1, top, top, 0, 1},
		{top - 2, top, top, top, 2},
		{top, top, top, 1, 1},
	} {
		if diff, borrow := Sub(x.a, x.b, x.c); diff != x.diff || borrow != x.borrow {
			t.Errorf("Sub(%d, %d, %d) = %d, %d, not %d, %d", x.a, x.b, x.c, diff, borrow, x.diff, x.borrow)
		}
	}
}

func TestSubIsExactAtTheEdges(t *testing.T) {
	triples(func(a, b, c uint32) {
		want := new(big.Int).Sub(word(a), word(b))
		want.Sub(want, word(c))
		diff, borrow := Sub(a, b, c)
		if got := new(big.Int).Sub(word(diff), number(borrow, 0)); got.Cmp(want) != 0 {
			t.Errorf("Sub(%d, %d, %d) = %d, %d, not %v", a, b, c, diff, borrow, want)
		}
	})
}

// P1.2

func TestMulTellsBothWords(t *testing.T) {
	for _, x := range []struct{ a, b, c, d, hi, lo uint32 }{
		{0, 0, 0, 0, 0, 0},
		{0, top, 5, 6, 0, 11},
		{top, 0, top, 1, 1, 0},
		{6, 7, 8, 9, 0, 59},
		{1 << 31, 4, 7, 0, 2, 7},
		{1 << 31, 4, 0, 7, 2, 7},
		{top, 1, 1, 0, 1, 0},
		{top, 1, 0, 1, 1, 0},
		{top, top, 0, 0, top - 1, 1},
		{top, top, top, 0, top, 0},
		{top, top, top, top, top, top},
	} {
		if hi, lo := Mul(x.a, x.b, x.c, x.d); hi != x.hi || lo != x.lo {
			t.Errorf("Mul(%d, %d, %d, %d) = %d, %d, not %d, %d", x.a, x.b, x.c, x.d, hi, lo, x.hi, x.lo)
		}
	}
}

func TestMulIsExactAtTheEdges(t *testing.T) {
	triples(func(a, b, c uint32) {
		for _, d := range edges {
			want := new(big.Int).Mul(word(a), word(b))
			want.Add(want, word(c)).Add(want, word(d))
			if hi, lo := Mul(a, b, c, d); number(hi, lo).Cmp(want) != 0 {
				t.Errorf("Mul(%d, %d, %d, %d) = %d, %d, not %v", a, b, c, d, hi, lo, want)
			}
		}
	})
}

func TestDivTellsQuotientAndRest(t *testing.T) {
	for _, x := range []struct{ hi, lo, d, q, r uint32 }{
		{0, 0, 1, 0, 0},
		{0, top, 1, top, 0},
		{0, 9, 10, 0, 9},
		{0, 10, 10, 1, 0},
		{2, 7, 4, 2147483649, 3},
		{1, 0, 2, 1 << 31, 0},
		{0, top, top, 1, 0},
		{0, top - 1, top, 0, top - 1},
		{top - 1, 0, top, top - 1, top - 1},
		{top - 1, top, top, top, top - 1},
	} {
		if q, r, ok := Div(x.hi, x.lo, x.d); q != x.q || r != x.r || !ok {
			t.Errorf("Div(%d, %d, %d) = %d, %d, %t, not %d, %d, true", x.hi, x.lo, x.d, q, r, ok, x.q, x.r)
		}
	}
}

func TestDivTellsNothingIfHiIsNotLess(t *testing.T) {
	for _, x := range [][3]uint32{
		{0, 0, 0}, {0, 5, 0}, {0, top, 0}, {1, 0, 0}, {top, top, 0},
		{1, 0, 1}, {1, top, 1}, {2, 0, 1}, {4, 0, 4}, {4, 1, 4}, {5, 1, 4},
		{top, 0, top - 1}, {top, 0, top}, {top, top, top}, {top, 7, 1},
	} {
		if q, r, ok := Div(x[0], x[1], x[2]); q != 0 || r != 0 || ok {
			t.Errorf("Div(%d, %d, %d) = %d, %d, %t, not 0, 0, false", x[0], x[1], x[2], q, r, ok)
		}
	}
}

func TestDivIsExactAtTheEdges(t *testing.T) {
	triples(func(hi, lo, d uint32) {
		q, r, ok := Div(hi, lo, d)
		if ok != (hi < d) {
			t.Fatalf("Div(%d, %d, %d): %t", hi, lo, d, ok)
		}
		if !ok {
			if q != 0 || r != 0 {
				t.Errorf("Div(%d, %d, %d) = %d, %d beside false", hi, lo, d, q, r)
			}
			return
		}
		wantQ, wantR := new(big.Int).QuoRem(number(hi, lo), word(d), new(big.Int))
		if word(q).Cmp(wantQ) != 0 || word(r).Cmp(wantR) != 0 {
			t.Errorf("Div(%d, %d, %d) = %d, %d, not %v, %v", hi, lo, d, q, r, wantQ, wantR)
		}
	})
}

// P1.3

func TestBitsOfZeroAndOfEveryLength(t *testing.T) {
	if n := Bits(0); n != 0 {
		t.Errorf("Bits(0) = %d", n)
	}
	for n := 1; n <= 32; n++ {
		least, most := uint32(1)<<(n-1), uint32(1<<n-1)
		if Bits(least) != n || Bits(most) != n {
			t.Errorf("Bits(%d), Bits(%d) = %d, %d, not %d", least, most, Bits(least), Bits(most), n)
		}
	}
}

func TestBitsIsHowManyDigitsAreWritten(t *testing.T) {
	for _, a := range edges[1:] {
		if n, digits := Bits(a), strconv.FormatUint(uint64(a), 2); n != len(digits) {
			t.Errorf("Bits(%d) = %d, but it is written %s", a, n, digits)
		}
	}
}

func TestLowLeavesOutZerosAtTheEndAlone(t *testing.T) {
	for _, x := range []struct {
		l    []uint32
		want int
	}{
		{nil, 0},
		{[]uint32{}, 0},
		{[]uint32{0}, 0},
		{[]uint32{0, 0, 0}, 0},
		{[]uint32{5}, 1},
		{[]uint32{top}, 1},
		{[]uint32{5, 0}, 1},
		{[]uint32{0, 5}, 2},
		{[]uint32{0, 3, 0}, 2},
		{[]uint32{1, 0, 0, 1 << 31, 0, 0}, 4},
		{[]uint32{1, 2, 3}, 3},
		{append(make([]uint32, 1000), 1), 1001},
		{make([]uint32, 1000), 0},
	} {
		if got := Low(x.l); got != x.want {
			t.Errorf("Low of %d words = %d, not %d", len(x.l), got, x.want)
		}
	}
}

func TestLowLooksNoFurtherThanTheList(t *testing.T) {
	l := []uint32{4, 0, 9}
	if n := Low(l[:2]); n != 1 {
		t.Errorf("Low = %d, not 1", n)
	}
}

func TestLowDoesNotChangeItsList(t *testing.T) {
	l := []uint32{0, 7, 0, 0}
	Low(l)
	if !slices.Equal(l, []uint32{0, 7, 0, 0}) {
		t.Errorf("Low changed its list to %v", l)
	}
}

// P1.4

func TestWhatIsAddedIsTakenAwayAgain(t *testing.T) {
	triples(func(a, b, c uint32) {
		sum, carry := Add(a, b, c)
		if diff, borrow := Sub(sum, b, c); diff != a || borrow != carry {
			t.Errorf("%d, %d, %d: Add tells %d, %d, Sub back %d, %d", a, b, c, sum, carry, diff, borrow)
		}
	})
}

func TestWhatIsTakenAwayIsAddedAgain(t *testing.T) {
	triples(func(a, b, c uint32) {
		diff, borrow := Sub(a, b, c)
		if sum, carry := Add(diff, b, c); sum != a || carry != borrow {
			t.Errorf("%d, %d, %d: Sub tells %d, %d, Add back %d, %d", a, b, c, diff, borrow, sum, carry)
		}
	})
}

func TestWhatIsMultipliedIsDividedAgain(t *testing.T) {
	triples(func(a, b, c uint32) {
		if c >= b {
			return
		}
		hi, lo := Mul(a, b, c, 0)
		if q, r, ok := Div(hi, lo, b); q != a || r != c || !ok {
			t.Errorf("%d, %d, %d: Mul tells %d, %d, Div back %d, %d, %t", a, b, c, hi, lo, q, r, ok)
		}
	})
}

func TestWhatIsDividedIsMultipliedAgain(t *testing.T) {
	triples(func(hi, lo, d uint32) {
		q, r, ok := Div(hi, lo, d)
		if !ok {
			return
		}
		if h, l := Mul(q, d, r, 0); h != hi || l != lo {
			t.Errorf("%d, %d, %d: Div tells %d, %d, Mul back %d, %d", hi, lo, d, q, r, h, l)
		}
	})
}
