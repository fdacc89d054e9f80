package common

import (
	"math/big"
	"slices"
	"testing"

	"talweg/nat"
	"talweg/times"
)

const top = 1<<32 - 1

// lists are right ones and others, about the numbers at which words and their count turn over.
func lists() [][]uint32 {
	return [][]uint32{
		nil, {}, {0}, {0, 0, 0},
		{1}, {1, 0}, {1, 0, 0, 0}, {2}, {3, 0}, {6}, {12}, {18}, {1 << 16}, {1 << 31}, {1<<31 - 1, 0}, {top - 1}, {top}, {top, 0},
		{0, 1}, {1, 1}, {0, 1, 0}, {top, 1}, {0, 1 << 31}, {top, 1<<31 - 1}, {0, top}, {1, top}, {top, top}, {top, top, 0, 0},
		{0, 0, 1}, {0, 0, 6, 0}, {top, 0, 1}, {0, top, 1}, {top, top, 1}, {1, 0, 1 << 31}, {top, top, top}, {top, 0, top, 0, top}, {1, 0, top - 1, top},
		{3, 1, 4, 1, 5, 9}, {3, 1, 4, 1, 5, 9, 0}, {0, 0, 0, 7, 0, 0, 8},
		slices.Repeat([]uint32{top}, 40), append(make([]uint32, 40), 1), append(slices.Repeat([]uint32{top}, 33), 0, 0), mixed(20, 3),
	}
}

// number is what a list of words says, reckoned by another means than the package's.
func number(a []uint32) *big.Int {
	n := new(big.Int)
	for _, w := range slices.Backward(a) {
		n.Lsh(n, 32).Or(n, new(big.Int).SetUint64(uint64(w)))
	}
	return n
}

// says tells whether an answer is a number's nat.
func says(a []uint32, n *big.Int) bool { return nat.Right(a) && number(a).Cmp(n) == 0 }

// mixed is a list of words without a pattern that counts.
func mixed(n int, seed uint32) []uint32 {
	list := make([]uint32, n)
	for i := range list {
		seed = seed*1664525 + 1013904223
		list[i] = seed ^ seed>>15
	}
	return list
}

// pairs calls f with all two of the lists.
func pairs(f func(a, b []uint32)) {
	for _, a := range lists() {
		for _, b := range lists() {
			f(a, b)
		}
	}
}

// sums are the first n of the sequence in which each is the sum of the two before it.
func sums(n int) [][]uint32 {
	all := [][]uint32{nat.Of(1), nat.Of(1)}
	for len(all) < n {
		all = append(all, nat.Add(all[len(all)-2], all[len(all)-1]))
	}
	return all
}

// agrees holds every call's answer, of two lists, against math/big's.
func agrees(t *testing.T, a, b []uint32) {
	t.Helper()
	x, y := number(a), number(b)
	g := new(big.Int).GCD(nil, nil, x, y)
	if got := Gcd(a, b); !says(got, g) {
		t.Errorf("Gcd(%v, %v) = %v", a, b, got)
	}
	if got, want := Apart(a, b), g.Cmp(big.NewInt(1)) == 0; got != want {
		t.Errorf("Apart(%v, %v) = %t", a, b, got)
	}
	multiple := new(big.Int).Mul(x, y)
	if multiple.Sign() > 0 {
		multiple.Quo(multiple, g)
	}
	if got := Lcm(a, b); !says(got, multiple) {
		t.Errorf("Lcm(%v, %v) = %v", a, b, got)
	}
	low, under, ok := Lowest(a, b)
	if y.Sign() == 0 {
		if ok || len(low) != 0 || len(under) != 0 {
			t.Errorf("Lowest(%v, %v) = %v, %v, %t", a, b, low, under, ok)
		}
		return
	}
	if !ok || !says(low, x.Quo(x, g)) || !says(under, y.Quo(y, g)) {
		t.Errorf("Lowest(%v, %v) = %v, %v, %t", a, b, low, under, ok)
	}
}

// P5.1

func TestGcd(t *testing.T) {
	for _, x := range []struct{ a, b, want []uint32 }{
		{[]uint32{12}, []uint32{18}, []uint32{6}}, {[]uint32{18, 0}, []uint32{12, 0, 0}, []uint32{6}}, {[]uint32{17}, []uint32{5}, []uint32{1}},
		{nil, nil, nil}, {nil, []uint32{0}, nil}, {[]uint32{0, 0}, []uint32{0}, nil}, {nil, []uint32{9}, []uint32{9}}, {[]uint32{9}, nil, []uint32{9}}, {[]uint32{0, 0}, []uint32{9, 8, 0}, []uint32{9, 8}}, {[]uint32{9, 8, 0}, []uint32{0}, []uint32{9, 8}},
		{[]uint32{1}, []uint32{top}, []uint32{1}}, {[]uint32{5, 6, 7}, []uint32{1, 0}, []uint32{1}}, {[]uint32{1}, nil, []uint32{1}}, {nil, []uint32{1}, []uint32{1}}, {[]uint32{1}, []uint32{1}, []uint32{1}},
		{[]uint32{top}, []uint32{top}, []uint32{top}}, {[]uint32{5, 6, 7, 0}, []uint32{5, 6, 7}, []uint32{5, 6, 7}}, {[]uint32{7}, []uint32{91}, []uint32{7}}, {[]uint32{91}, []uint32{7}, []uint32{7}},
		{[]uint32{1 << 31}, []uint32{1 << 20}, []uint32{1 << 20}}, {[]uint32{0, 0, 6}, []uint32{0, 4}, []uint32{0, 4}}, {[]uint32{0, 0, 0, 1}, []uint32{0, 1}, []uint32{0, 1}}, {[]uint32{0, 0, 1}, []uint32{3}, []uint32{1}},
		{[]uint32{top, top}, []uint32{top}, []uint32{top}}, {[]uint32{top, top, top, top}, []uint32{top, top}, []uint32{top, top}}, {[]uint32{top, top, top}, []uint32{top, top}, []uint32{top}},
		{[]uint32{top - 1}, []uint32{top}, []uint32{1}}, {[]uint32{0, 1}, []uint32{top}, []uint32{1}},
	} {
		if got := Gcd(x.a, x.b); !slices.Equal(got, x.want) {
			t.Errorf("Gcd(%v, %v) = %v", x.a, x.b, got)
		}
	}
}

func TestLcm(t *testing.T) {
	for _, x := range []struct{ a, b, want []uint32 }{
		{[]uint32{12}, []uint32{18}, []uint32{36}}, {[]uint32{18, 0}, []uint32{12, 0}, []uint32{36}}, {[]uint32{4}, []uint32{9}, []uint32{36}}, {[]uint32{36}, []uint32{9}, []uint32{36}}, {[]uint32{9}, []uint32{36}, []uint32{36}},
		{nil, nil, nil}, {[]uint32{0, 0}, []uint32{0}, nil}, {nil, []uint32{3}, nil}, {[]uint32{3}, nil, nil}, {[]uint32{0}, []uint32{3, 4}, nil}, {[]uint32{3, 4}, []uint32{0, 0}, nil},
		{[]uint32{1}, []uint32{7, 8}, []uint32{7, 8}}, {[]uint32{7, 8, 0}, []uint32{1}, []uint32{7, 8}}, {[]uint32{7, 8}, []uint32{7, 8, 0}, []uint32{7, 8}},
		{[]uint32{top}, []uint32{top - 1}, []uint32{2, top - 2}}, {[]uint32{0, 1}, []uint32{1 << 31}, []uint32{0, 1}}, {[]uint32{0, 4}, []uint32{6}, []uint32{0, 12}}, {[]uint32{top}, []uint32{0, 1}, []uint32{0, top}},
	} {
		if got := Lcm(x.a, x.b); !slices.Equal(got, x.want) {
			t.Errorf("Lcm(%v, %v) = %v", x.a, x.b, got)
		}
	}
}

func TestApart(t *testing.T) {
	for _, x := range []struct {
		a, b []uint32
		want bool
	}{
		{[]uint32{4}, []uint32{9}, true}, {[]uint32{4, 0}, []uint32{9, 0}, true}, {[]uint32{12}, []uint32{18}, false}, {[]uint32{7}, []uint32{7}, false}, {[]uint32{7}, []uint32{49}, false},
		{nil, nil, false}, {[]uint32{0}, []uint32{0, 0}, false}, {nil, []uint32{1}, true}, {[]uint32{1, 0}, []uint32{0}, true}, {nil, []uint32{2}, false}, {[]uint32{0, 1}, nil, false},
		{[]uint32{1}, []uint32{1}, true}, {[]uint32{1}, []uint32{0, 0, 1}, true}, {[]uint32{0, 1}, []uint32{top}, true}, {[]uint32{0, 1}, []uint32{2}, false}, {[]uint32{0, 1}, []uint32{0, 3}, false}, {[]uint32{1, 1}, []uint32{641}, false}, {[]uint32{1, 1}, []uint32{643}, true},
	} {
		if got := Apart(x.a, x.b); got != x.want {
			t.Errorf("Apart(%v, %v) = %t", x.a, x.b, got)
		}
	}
}

func TestEveryTwo(t *testing.T) {
	pairs(func(a, b []uint32) { agrees(t, a, b) })
	for a := range uint32(70) {
		for b := range uint32(70) {
			agrees(t, []uint32{a}, []uint32{b})
		}
	}
}

func TestZeroOnEitherSide(t *testing.T) {
	for _, zero := range [][]uint32{nil, {}, {0}, {0, 0, 0}} {
		for _, a := range lists() {
			want := nat.Trim(a)
			if left, right := Gcd(zero, a), Gcd(a, zero); !slices.Equal(left, want) || !slices.Equal(right, want) {
				t.Errorf("Gcd of %v and %v: %v, %v", zero, a, left, right)
			}
			if left, right := Lcm(zero, a), Lcm(a, zero); len(left)+len(right) != 0 {
				t.Errorf("Lcm of %v and %v: %v, %v", zero, a, left, right)
			}
		}
	}
}

func TestOneAndItself(t *testing.T) {
	one := []uint32{1}
	for _, a := range lists() {
		own := nat.Trim(a)
		if left, right := Gcd(one, a), Gcd(a, one); !slices.Equal(left, one) || !slices.Equal(right, one) || !Apart(one, a) || !Apart(a, one) {
			t.Errorf("1 and %v: %v, %v", a, left, right)
		}
		if left, right := Lcm(one, a), Lcm(a, one); !slices.Equal(left, own) || !slices.Equal(right, own) {
			t.Errorf("the least that 1 and %v go into: %v, %v", a, left, right)
		}
		padded := append(slices.Clone(a), 0)
		if got := Gcd(a, padded); !slices.Equal(got, own) {
			t.Errorf("%v and itself: %v", a, got)
		}
		if got := Lcm(a, padded); !slices.Equal(got, own) {
			t.Errorf("the least that %v goes into: %v", a, got)
		}
	}
}

func TestANumberAndAMultiple(t *testing.T) {
	pairs(func(a, b []uint32) {
		multiple := times.Mul(a, b)
		if nat.Bits(multiple) == 0 {
			return
		}
		own := nat.Trim(a)
		if left, right := Gcd(a, multiple), Gcd(multiple, a); !slices.Equal(left, own) || !slices.Equal(right, own) {
			t.Errorf("%v and a multiple by %v: %v, %v", a, b, left, right)
		}
		if left, right := Lcm(a, multiple), Lcm(multiple, a); !slices.Equal(left, multiple) || !slices.Equal(right, multiple) {
			t.Errorf("the least that %v and a multiple by %v go into: %v, %v", a, b, left, right)
		}
		agrees(t, nat.Add(multiple, nat.Of(1)), a)
		agrees(t, nat.Add(multiple, multiple), times.One(a, 3, 0))
	})
}

func TestNeighboursAmongSums(t *testing.T) {
	// Of these what is left goes down slowest: each quotient is 1.
	all := sums(3000)
	one := []uint32{1}
	for i := 1; i < len(all); i += 1 + i/50 {
		a, b := all[i], all[i-1]
		if left, right := Gcd(a, b), Gcd(b, a); !slices.Equal(left, one) || !slices.Equal(right, one) || !Apart(a, b) {
			t.Errorf("the sums before place %d: %v, %v", i, left, right)
		}
		if got := Lcm(a, b); !slices.Equal(got, times.Mul(a, b)) {
			t.Errorf("the least that the sums before place %d go into: %v", i, got)
		}
		x, y, ok := Lowest(times.One(a, 15, 0), times.One(b, 15, 0))
		if !ok || !slices.Equal(x, a) || !slices.Equal(y, b) {
			t.Errorf("15 times the sums before place %d: %v, %v, %t", i, x, y, ok)
		}
	}
	// Places that have something in common have the sum at that place in common.
	for _, x := range [][3]int{{12, 18, 6}, {100, 75, 25}, {2880, 2160, 720}, {2998, 1499, 1499}, {2999, 2998, 1}} {
		if got := Gcd(all[x[0]-1], all[x[1]-1]); !slices.Equal(got, all[x[2]-1]) {
			t.Errorf("the sums at places %d and %d: %v", x[0], x[1], got)
		}
	}
}

func TestPowersOfTwo(t *testing.T) {
	one := nat.Of(1)
	for i := 0; i < 300; i += 7 {
		for k := 0; k < 300; k += 11 {
			a, b := times.Shift(one, i), times.Shift(one, k)
			if got := Gcd(a, b); !slices.Equal(got, times.Shift(one, min(i, k))) {
				t.Errorf("2 to the powers %d and %d: %v", i, k, got)
			}
			if got := Lcm(a, b); !slices.Equal(got, times.Shift(one, max(i, k))) {
				t.Errorf("the least that 2 to the powers %d and %d go into: %v", i, k, got)
			}
			if i > 0 && k > 0 {
				below, _ := nat.Sub(b, one)
				agrees(t, a, below)
				agrees(t, nat.Add(a, one), below)
				agrees(t, times.One(a, 3, 0), times.One(b, 6, 0))
			}
		}
	}
}

func TestManyWordsBesideOne(t *testing.T) {
	for _, n := range []int{2, 3, 4, 5, 31, 32, 33, 64, 200} {
		for _, a := range [][]uint32{mixed(n, uint32(n)), slices.Repeat([]uint32{top}, n), append(make([]uint32, n-1), 1), times.One(mixed(n, 7), 30030, 0)} {
			for _, w := range []uint32{1, 2, 3, 7, 30030, 1 << 31, 1<<31 - 1, top - 4, top - 1, top} {
				agrees(t, a, []uint32{w})
				agrees(t, []uint32{w, 0}, a)
			}
		}
	}
}

func TestWordsOfAllBits(t *testing.T) {
	// Of numbers with all bits the count of bits tells what they have in common.
	for n := 1; n < 40; n++ {
		for m := 1; m < 40; m++ {
			agrees(t, slices.Repeat([]uint32{top}, n), slices.Repeat([]uint32{top}, m))
		}
		agrees(t, slices.Repeat([]uint32{top}, n), append(make([]uint32, n), 1))
		agrees(t, slices.Repeat([]uint32{top}, n), append(slices.Repeat([]uint32{top}, n-1), top-1))
	}
}

func TestManyWords(t *testing.T) {
	for n := range 24 {
		for m := range 24 {
			a, b, c := mixed(n, uint32(n*m)), mixed(m, uint32(n+m)), mixed((n+m)%7, 5)
			agrees(t, a, b)
			agrees(t, times.Mul(a, c), times.Mul(b, c))
		}
	}
	a, b, c := mixed(300, 1), mixed(299, 2), mixed(100, 3)
	agrees(t, a, b)
	agrees(t, times.Mul(a, c), times.Mul(b, c))
	agrees(t, times.Mul(c, c), times.Mul(c, b))
}

func TestHighestWordsAlikeOrFarApart(t *testing.T) {
	// Where the highest words tell next to nothing of the quotients.
	high := [][]uint32{{0, 1}, {1, 1}, {top, top}, {0, top}, {top, 1 << 31}, {0, 1 << 31}, {2}, {1}, {0, 0, 1}, {top - 1, top}, {5, 3}}
	low := [][]uint32{{0, 0}, {1, 0}, {2, 0}, {top, top}, {top - 1, top}, {0, 1}, {7, 1 << 31}}
	for _, h := range high {
		for _, k := range high {
			for _, l := range low {
				for _, m := range low {
					agrees(t, slices.Concat(l, h), slices.Concat(m, k))
				}
			}
		}
	}
}

// P5.2

func TestLowest(t *testing.T) {
	for _, x := range []struct{ a, b, want, under []uint32 }{
		{[]uint32{12}, []uint32{18}, []uint32{2}, []uint32{3}}, {[]uint32{12, 0}, []uint32{18, 0}, []uint32{2}, []uint32{3}}, {[]uint32{18}, []uint32{12}, []uint32{3}, []uint32{2}},
		{nil, []uint32{18}, nil, []uint32{1}}, {[]uint32{0, 0}, []uint32{5, 6, 0}, nil, []uint32{1}}, {[]uint32{0}, []uint32{1}, nil, []uint32{1}},
		{[]uint32{4}, []uint32{9}, []uint32{4}, []uint32{9}}, {[]uint32{7, 8, 0}, []uint32{1, 0}, []uint32{7, 8}, []uint32{1}}, {[]uint32{1}, []uint32{7, 8}, []uint32{1}, []uint32{7, 8}},
		{[]uint32{7, 8}, []uint32{7, 8, 0}, []uint32{1}, []uint32{1}}, {[]uint32{91}, []uint32{7}, []uint32{13}, []uint32{1}}, {[]uint32{7}, []uint32{91}, []uint32{1}, []uint32{13}},
		{[]uint32{0, 0, 6}, []uint32{0, 4}, []uint32{1 << 31, 1}, []uint32{1}}, {[]uint32{0, 6}, []uint32{4}, []uint32{1 << 31, 1}, []uint32{1}}, {[]uint32{top, top, top}, []uint32{top, top}, []uint32{1, 1, 1}, []uint32{1, 1}},
	} {
		if got, under, ok := Lowest(x.a, x.b); !ok || !slices.Equal(got, x.want) || !slices.Equal(under, x.under) {
			t.Errorf("Lowest(%v, %v) = %v, %v, %t", x.a, x.b, got, under, ok)
		}
	}
}

func TestLowestOfAboveZeroIsNone(t *testing.T) {
	for _, a := range lists() {
		for _, zero := range [][]uint32{nil, {}, {0}, {0, 0, 0}} {
			if x, y, ok := Lowest(a, zero); ok || len(x) != 0 || len(y) != 0 {
				t.Errorf("Lowest(%v, %v) = %v, %v, %t", a, zero, x, y, ok)
			}
		}
	}
}

func TestLowestAreApartAndAsBefore(t *testing.T) {
	pairs(func(a, b []uint32) {
		x, y, ok := Lowest(a, b)
		if !ok {
			return
		}
		if !Apart(x, y) || nat.Cmp(times.Mul(x, b), times.Mul(y, a)) != 0 {
			t.Errorf("Lowest(%v, %v) = %v, %v", a, b, x, y)
		}
		again, under, ok := Lowest(x, y)
		if !ok || !slices.Equal(again, x) || !slices.Equal(under, y) {
			t.Errorf("Lowest(%v, %v) = %v, %v, %t", x, y, again, under, ok)
		}
	})
}

// P5.3

func TestWhateverGoesIntoBothGoesIntoTheirGcd(t *testing.T) {
	for a := uint32(1); a <= 48; a++ {
		for b := uint32(1); b <= 48; b++ {
			g, small := nat.Small(Gcd([]uint32{a}, []uint32{b}))
			if !small || g == 0 {
				t.Fatalf("Gcd of %d and %d: %d", a, b, g)
			}
			for d := uint32(1); d <= 48; d++ {
				if both := a%d == 0 && b%d == 0; both != (g%uint64(d) == 0) {
					t.Errorf("%d goes into %d and %d: %t; their Gcd is %d", d, a, b, both, g)
				}
			}
		}
	}
	pairs(func(a, b []uint32) {
		for _, d := range [][]uint32{{6}, {top}, {0, 1}, {5, 7, 9}, mixed(12, 8)} {
			g := Gcd(times.Mul(a, d), times.Mul(b, d))
			if !slices.Equal(g, times.Mul(Gcd(a, b), d)) {
				t.Errorf("%v, times %v and %v: Gcd is %v", d, a, b, g)
			}
			if new(big.Int).Rem(number(g), number(d)).Sign() != 0 {
				t.Errorf("%v goes into both, but not into %v", d, g)
			}
		}
		if g := Gcd(a, b); !slices.Equal(g, Gcd(b, a)) || nat.Cmp(times.Mul(g, Lcm(a, b)), times.Mul(a, b)) != 0 {
			t.Errorf("%v and %v: Gcd %v, Lcm %v", a, b, g, Lcm(a, b))
		}
	})
}

// What is left, and the leaps over it.

// allLeft is every number that is left of two, none leapt over, reckoned by math/big.
func allLeft(a, b []uint32) []string {
	x, y := number(a), number(b)
	if x.Cmp(y) < 0 {
		x, y = y, x
	}
	var all []string
	for x.Sign() > 0 {
		all = append(all, x.String())
		if y.Sign() == 0 {
			break
		}
		x, y = y, new(big.Int).Rem(x, y)
	}
	return all
}

func TestWhatIsToldIsLeft(t *testing.T) {
	told := func(a, b []uint32) {
		all := allLeft(a, b)
		last := ""
		for left := range lefts(a, b) {
			last = number(left).String()
			at := slices.Index(all, last)
			if at < 0 || !nat.Right(left) {
				t.Fatalf("%v, %v: %v isn't left", a, b, left)
			}
			all = all[at+1:]
		}
		if len(all) > 0 {
			t.Errorf("%v, %v: after %s still %v", a, b, last, all)
		}
	}
	pairs(told)
	for n := range 20 {
		told(mixed(n, uint32(n)), mixed(19-n, 77))
		told(mixed(n, uint32(n)), mixed(n, 78))
	}
	all := sums(400)
	told(all[399], all[398])
}

func TestALeapIsSureWhateverLiesBelowTheHeads(t *testing.T) {
	const below = 1 << 20
	for x := range uint64(160) {
		for y := range x + 1 {
			first, second := leap(x, y)
			for _, low := range [][2]uint64{{0, 0}, {0, below - 1}, {below - 1, 0}, {below - 1, below - 1}} {
				a, b := x*below+low[0], y*below+low[1]
				if a < b {
					continue
				}
				one, _ := nat.Small(first.of(nat.Of(a), nat.Of(b)))
				two, _ := nat.Small(second.of(nat.Of(a), nat.Of(b)))
				for p, q := a, b; p != one || q != two; p, q = q, p%q {
					if q == 0 {
						t.Fatalf("%d and %d: %d and %d aren't left", a, b, one, two)
					}
				}
			}
		}
	}
}

func TestLeapsTakeFewSteps(t *testing.T) {
	a, b := mixed(100, 1), mixed(100, 2)
	all := sums(4600)
	for _, x := range [][2][]uint32{{a, b}, {all[4599], all[4598]}} {
		count := 0
		for range lefts(x[0], x[1]) {
			count++
		}
		// A leap takes about a word from both.
		if most := 2 * len(x[0]); count > most {
			t.Errorf("%d steps, not %d", count, most)
		}
	}
}

func TestWhoRangesMayStop(t *testing.T) {
	for left := range lefts([]uint32{12}, []uint32{18}) {
		if !slices.Equal(left, []uint32{18}) {
			t.Errorf("first %v", left)
		}
		break
	}
}

// R5

// answers is what all calls answer of two lists.
func answers(a, b []uint32) [][]uint32 {
	all := [][]uint32{Gcd(a, b), Gcd(b, a), Gcd(a, a), Gcd(a, nil), Gcd(nil, b), Lcm(a, b), Lcm(b, a), Lcm(a, a), Lcm(a, []uint32{1}), Lcm([]uint32{1}, b)}
	for _, under := range [][]uint32{b, a, {1}} {
		x, y, _ := Lowest(a, under)
		all = append(all, x, y)
	}
	return all
}

// spoil writes over all the memory that an answer has, also what lies behind its end.
func spoil(a []uint32) {
	a = a[:cap(a)]
	for i := range a {
		a[i] = 0xdead
	}
}

func TestWhatIsHandedInStaysAsItWas(t *testing.T) {
	pairs(func(a, b []uint32) {
		wasA, wasB := slices.Clone(a), slices.Clone(b)
		answers(a, b)
		Apart(a, b)
		if !slices.Equal(a, wasA) || !slices.Equal(b, wasB) {
			t.Errorf("%v, %v became %v, %v", wasA, wasB, a, b)
		}
	})
}

func TestWordsBehindAListStayAsTheyWere(t *testing.T) {
	room := []uint32{top, top, 7, 8}
	for _, x := range answers(room[:2], room[:1]) {
		_ = append(x, 1, 2, 3, 4)
	}
	if !slices.Equal(room, []uint32{top, top, 7, 8}) {
		t.Errorf("room became %v", room)
	}
}

func TestWhatIsAnsweredIsMemoryOfItsOwn(t *testing.T) {
	pairs(func(a, b []uint32) {
		wasA, wasB := slices.Clone(a), slices.Clone(b)
		first, second := answers(a, b), answers(a, b)
		for i := range first {
			spoil(first[i])
			if !slices.Equal(a, wasA) || !slices.Equal(b, wasB) {
				t.Fatalf("%v, %v: answer %d shares memory with what was handed in", wasA, wasB, i)
			}
			// The answers that aren't spoilt yet must be as they are when asked again.
			for k := i + 1; k < len(first); k++ {
				if !slices.Equal(first[k], second[k]) {
					t.Fatalf("%v, %v: answers %d and %d share memory", wasA, wasB, i, k)
				}
			}
		}
	})
}

func TestALaterChangeOfWhatWasHandedInIsNotSeen(t *testing.T) {
	a, b := []uint32{3, 4, 0}, []uint32{6}
	got := answers(a, b)
	want := answers([]uint32{3, 4, 0}, []uint32{6})
	a[0], b[0] = 9, 9
	for i := range got {
		if !slices.Equal(got[i], want[i]) {
			t.Errorf("answer %d became %v", i, got[i])
		}
	}
}
