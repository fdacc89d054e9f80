package ratio

import (
	"math"
	"math/big"
	"slices"
	"strings"
	"testing"

	"talweg/api"
	"talweg/deci"
	"talweg/times"
	"talweg/whole"
)

const top = 1<<32 - 1

// mixed is a list of words without a pattern that counts.
func mixed(n int, seed uint32) []uint32 {
	list := make([]uint32, n)
	for i := range list {
		seed = seed*1664525 + 1013904223
		list[i] = seed ^ seed>>15
	}
	return list
}

// terms are what stands above and below strokes: 0, 1 and others, in lowest terms and not, right lists and such that end with 0s.
func terms() [][2][]uint32 {
	return [][2][]uint32{
		{{1}, {1}}, {{2}, {1}}, {{1}, {2}}, {{1}, {3}}, {{2}, {3}}, {{3}, {2}}, {{7}, {1}}, {{5}, {6}},
		{{top}, {1}}, {{1}, {top}}, {{0, 1}, {1}}, {{1}, {0, 1}}, {{top}, {0, 1}}, {{0, 1}, {top}}, {{top, top}, {2}}, {{0, 1 << 31}, {1}}, {{0, 1 << 31}, {top, top}},
		{{4}, {6}}, {{6}, {3}}, {{3}, {6}}, {{5}, {5}}, {{12}, {18}}, {{0, 2}, {0, 4}}, {{top}, {top}}, {{0, 0, 1}, {0, 1}},
		{{1, 0}, {1}}, {{1}, {1, 0}}, {{2, 0, 0}, {3, 0}}, {{4, 0}, {6}}, {{4}, {6, 0, 0}}, {{0, 1, 0}, {1, 0}}, {{0, 3, 0}, {0, 0, 9, 0}},
		{mixed(4, 3), mixed(3, 5)}, {mixed(2, 9), mixed(5, 9)}, {times.Mul(mixed(3, 1), mixed(2, 2)), times.Mul(mixed(2, 4), mixed(3, 1))},
	}
}

// zeros are right and other ones that count as 0.
func zeros() []api.Rat {
	var all []api.Rat
	for _, below := range []bool{false, true} {
		for _, num := range [][]uint32{nil, {}, {0}, {0, 0, 0}} {
			for _, den := range [][]uint32{{1}, {1, 0}, {2}, {5, 0}, {0, 1}, {top, top}} {
				all = append(all, api.Rat{Neg: below, Num: num, Den: den})
			}
		}
		for _, num := range [][]uint32{nil, {}, {0}, {1}, {5}, {5, 0}, {0, 1}} {
			for _, den := range [][]uint32{nil, {}, {0}, {0, 0, 0}} {
				all = append(all, api.Rat{Neg: below, Num: num, Den: den})
			}
		}
	}
	return all
}

// others are all terms, each with either sign.
func others() []api.Rat {
	var all []api.Rat
	for _, x := range terms() {
		all = append(all, api.Rat{Num: x[0], Den: x[1]}, api.Rat{Neg: true, Num: slices.Clone(x[0]), Den: slices.Clone(x[1])})
	}
	return all
}

// rats are numbers of every kind, among them some 0s.
func rats() []api.Rat {
	return append(others(), api.Rat{Den: []uint32{1}}, api.Rat{Neg: true, Num: []uint32{0}, Den: []uint32{6}}, api.Rat{}, api.Rat{Neg: true, Num: []uint32{5}, Den: []uint32{0, 0}})
}

// pairs calls f with all two of the rats.
func pairs(f func(a, b api.Rat)) {
	all := rats()
	for _, a := range all {
		for _, b := range all {
			f(a, b)
		}
	}
}

// natural is what a list of words says, reckoned by another means than the package's.
func natural(list []uint32) *big.Int {
	n := new(big.Int)
	for _, w := range slices.Backward(list) {
		n.Lsh(n, 32).Or(n, new(big.Int).SetUint64(uint64(w)))
	}
	return n
}

// words is the right list of a natural number.
func words(n *big.Int) []uint32 {
	var list []uint32
	for rest := new(big.Int).Abs(n); rest.Sign() > 0; rest.Rsh(rest, 32) {
		list = append(list, uint32(rest.Uint64()))
	}
	return list
}

// value is what a Rat says, reckoned by another means than the package's.
func value(a api.Rat) *big.Rat {
	num, den := natural(a.Num), natural(a.Den)
	if den.Sign() == 0 {
		return new(big.Rat)
	}
	if a.Neg {
		num.Neg(num)
	}
	return new(big.Rat).SetFrac(num, den)
}

// right is a number's right Rat, made by another means than the package's.
func right(n *big.Rat) api.Rat {
	return api.Rat{Neg: n.Sign() < 0, Num: words(n.Num()), Den: words(n.Denom())}
}

// same tells whether two Rats have the same sign and the same words, as they are.
func same(a, b api.Rat) bool {
	return a.Neg == b.Neg && slices.Equal(a.Num, b.Num) && slices.Equal(a.Den, b.Den)
}

// says looks whether an answer is a number's right Rat.
func says(t *testing.T, call string, got api.Rat, want *big.Rat) {
	t.Helper()
	if !same(got, right(want)) {
		t.Errorf("%s = %v, not %v", call, got, want)
	}
}

// tells looks whether an answer is a number's right Rat, without an error.
func tells(t *testing.T, call string, got api.Rat, e api.Errno, want *big.Rat) {
	t.Helper()
	says(t, call, got, want)
	if e != api.OK {
		t.Errorf("%s: %v", call, e)
	}
}

// fails looks whether an answer is that error, with all else zero.
func fails(t *testing.T, call string, got api.Rat, e, want api.Errno) {
	t.Helper()
	if e != want || got.Neg || len(got.Num) != 0 || len(got.Den) != 0 {
		t.Errorf("%s = %v, %v, not %v", call, got, e, want)
	}
}

// part is n, divided by d.
func part(n, d int64) *big.Rat { return big.NewRat(n, d) }

// P8.1

func TestRight(t *testing.T) {
	for _, x := range []struct {
		a    api.Rat
		want bool
	}{
		{api.Rat{}, false}, {api.Rat{Den: []uint32{1}}, true}, {api.Rat{Num: []uint32{}, Den: []uint32{1}}, true}, {api.Rat{Neg: true, Den: []uint32{1}}, false},
		{api.Rat{Num: []uint32{0}, Den: []uint32{1}}, false}, {api.Rat{Den: []uint32{2}}, false}, {api.Rat{Den: []uint32{0}}, false}, {api.Rat{Den: []uint32{1, 0}}, false}, {api.Rat{Den: []uint32{0, 1}}, false},
		{api.Rat{Num: []uint32{1}}, false}, {api.Rat{Neg: true, Num: []uint32{1}}, false}, {api.Rat{Num: []uint32{1}, Den: []uint32{0}}, false}, {api.Rat{Num: []uint32{1}, Den: []uint32{0, 0}}, false}, {api.Rat{Num: []uint32{5}}, false},
		{api.Rat{Num: []uint32{1}, Den: []uint32{1}}, true}, {api.Rat{Neg: true, Num: []uint32{1}, Den: []uint32{1}}, true}, {api.Rat{Num: []uint32{1, 0}, Den: []uint32{1}}, false}, {api.Rat{Num: []uint32{1}, Den: []uint32{1, 0}}, false},
		{api.Rat{Num: []uint32{2}, Den: []uint32{3}}, true}, {api.Rat{Neg: true, Num: []uint32{2}, Den: []uint32{3}}, true}, {api.Rat{Num: []uint32{4}, Den: []uint32{6}}, false}, {api.Rat{Neg: true, Num: []uint32{4}, Den: []uint32{6}}, false}, {api.Rat{Num: []uint32{6}, Den: []uint32{3}}, false}, {api.Rat{Num: []uint32{2}, Den: []uint32{2}}, false},
		{api.Rat{Num: []uint32{0, 1}, Den: []uint32{top}}, true}, {api.Rat{Num: []uint32{0, 1}, Den: []uint32{2}}, false}, {api.Rat{Neg: true, Num: []uint32{top, top}, Den: []uint32{2}}, true},
	} {
		if got := Right(x.a); got != x.want {
			t.Errorf("Right(%v) = %t", x.a, got)
		}
	}
}

func TestRightIsWhatIsItsOwnRightOne(t *testing.T) {
	for _, a := range append(rats(), zeros()...) {
		if got, want := Right(a), same(a, right(value(a))); got != want {
			t.Errorf("Right(%v) = %t", a, got)
		}
	}
}

func TestFix(t *testing.T) {
	for _, a := range append(rats(), zeros()...) {
		says(t, "Fix", Fix(a), value(a))
		if !Right(Fix(a)) {
			t.Errorf("Fix(%v) isn't right", a)
		}
	}
}

func TestOf(t *testing.T) {
	for _, n := range []int{
		0, 1, -1, 2, -2, 10, -10, 1<<31 - 1, 1 << 31, -1 << 31, -1<<31 - 1, top, -top, top + 1, -top - 1, top + 2,
		1 << 62, -1 << 62, math.MaxInt - 1, math.MaxInt, math.MinInt + 1, math.MinInt,
	} {
		says(t, "Of", Of(n), part(int64(n), 1))
	}
	for n := -1000; n <= 1000; n++ {
		says(t, "Of", Of(n), part(int64(n), 1))
	}
	if least := Of(math.MinInt); !least.Neg || !slices.Equal(least.Num, []uint32{0, 1 << 31}) || !slices.Equal(least.Den, []uint32{1}) {
		t.Errorf("the least int: %v", least)
	}
}

func TestMake(t *testing.T) {
	for n := -30; n <= 30; n++ {
		for d := -30; d <= 30; d++ {
			got, e := Make(whole.Of(n), whole.Of(d))
			if d == 0 {
				fails(t, "Make", got, e, api.ErrZero)
				continue
			}
			tells(t, "Make", got, e, part(int64(n), int64(d)))
		}
	}
}

func TestMakeOfEveryTerm(t *testing.T) {
	for _, x := range terms() {
		for signs := range 4 {
			n, d := api.Int{Neg: signs&1 == 1, Mag: x[0]}, api.Int{Neg: signs&2 == 2, Mag: x[1]}
			got, e := Make(n, d)
			tells(t, "Make", got, e, value(api.Rat{Neg: n.Neg != d.Neg, Num: x[0], Den: x[1]}))
		}
	}
}

func TestMakeAboutZero(t *testing.T) {
	for _, mag := range [][]uint32{nil, {}, {0}, {0, 0, 0}} {
		for signs := range 4 {
			zero := api.Int{Neg: signs&1 == 1, Mag: mag}
			for _, x := range [][]uint32{{1}, {5, 0}, {0, 1}, {top, top}} {
				other := api.Int{Neg: signs&2 == 2, Mag: x}
				got, e := Make(zero, other)
				tells(t, "Make of 0", got, e, new(big.Rat))
				got, e = Make(other, zero)
				fails(t, "Make by 0", got, e, api.ErrZero)
			}
			got, e := Make(zero, zero)
			fails(t, "Make of 0 by 0", got, e, api.ErrZero)
			got, e = Make(api.Int{}, zero)
			fails(t, "Make of 0 by 0", got, e, api.ErrZero)
		}
	}
}

func TestCmpAndSame(t *testing.T) {
	pairs(func(a, b api.Rat) {
		want := value(a).Cmp(value(b))
		if got := Cmp(a, b); got != want {
			t.Errorf("Cmp(%v, %v) = %d, not %d", a, b, got, want)
		}
		if got := Same(a, b); got != (want == 0) {
			t.Errorf("Same(%v, %v) = %t", a, b, got)
		}
	})
}

func TestSmallOnesInOrder(t *testing.T) {
	for n := -6; n <= 6; n++ {
		for d := 1; d <= 6; d++ {
			for m := -6; m <= 6; m++ {
				for f := 1; f <= 6; f++ {
					a, _ := Make(whole.Of(n), whole.Of(d))
					b, _ := Make(whole.Of(m), whole.Of(f))
					if got, want := Cmp(a, b), part(int64(n), int64(d)).Cmp(part(int64(m), int64(f))); got != want || Same(a, b) != (want == 0) {
						t.Errorf("%d|%d and %d|%d: %d", n, d, m, f, got)
					}
				}
			}
		}
	}
}

func TestOneNumberInUnlikeTerms(t *testing.T) {
	for _, a := range others() {
		for _, k := range [][]uint32{{1, 0}, {2}, {top}, {0, 1}} {
			wide := api.Rat{Neg: a.Neg, Num: times.Mul(a.Num, k), Den: append(times.Mul(a.Den, k), 0)}
			if !Same(a, wide) || !Same(wide, a) || Cmp(a, wide) != 0 || Cmp(wide, a) != 0 || !same(Fix(a), Fix(wide)) {
				t.Errorf("%v and %v are one number", a, wide)
			}
			turned := api.Rat{Neg: !a.Neg, Num: wide.Num, Den: wide.Den}
			if Same(a, turned) || Cmp(a, turned) == 0 {
				t.Errorf("%v and %v aren't one number", a, turned)
			}
		}
	}
}

func TestZerosAreOneNumber(t *testing.T) {
	tiny := api.Rat{Num: []uint32{1}, Den: []uint32{top, top, top}}
	least := api.Rat{Neg: true, Num: []uint32{1}, Den: []uint32{top, top, top}}
	for _, a := range zeros() {
		for _, b := range zeros() {
			if Cmp(a, b) != 0 || !Same(a, b) {
				t.Errorf("%v and %v", a, b)
			}
		}
		if Cmp(a, tiny) != -1 || Cmp(tiny, a) != 1 || Cmp(a, least) != 1 || Cmp(least, a) != -1 || Same(a, tiny) || Same(least, a) {
			t.Errorf("%v isn't between what is just below and just above 0", a)
		}
	}
}

// P8.2

// reckoned looks at all that is reckoned of two numbers.
func reckoned(t *testing.T, a, b api.Rat) {
	t.Helper()
	x, y := value(a), value(b)
	says(t, "Add", Add(a, b), new(big.Rat).Add(x, y))
	says(t, "Sub", Sub(a, b), new(big.Rat).Sub(x, y))
	says(t, "Mul", Mul(a, b), new(big.Rat).Mul(x, y))
	q, e := Div(a, b)
	if y.Sign() == 0 {
		fails(t, "Div", q, e, api.ErrZero)
		return
	}
	tells(t, "Div", q, e, new(big.Rat).Quo(x, y))
}

func TestSmallSumsAndProducts(t *testing.T) {
	for n := -7; n <= 7; n++ {
		for d := 1; d <= 7; d++ {
			for m := -7; m <= 7; m++ {
				for f := 1; f <= 7; f++ {
					a := api.Rat{Neg: n < 0, Num: []uint32{uint32(max(n, -n))}, Den: []uint32{uint32(d)}}
					b := api.Rat{Neg: m < 0, Num: []uint32{uint32(max(m, -m))}, Den: []uint32{uint32(f)}}
					reckoned(t, a, b)
				}
			}
		}
	}
}

func TestEveryTwo(t *testing.T) { pairs(func(a, b api.Rat) { reckoned(t, a, b) }) }

func TestNeg(t *testing.T) {
	for _, a := range append(rats(), zeros()...) {
		n := value(a)
		says(t, "Neg", Neg(a), new(big.Rat).Neg(n))
		says(t, "Neg of Neg", Neg(Neg(a)), n)
	}
}

func TestSumsByTheirSigns(t *testing.T) {
	for _, x := range []struct{ a, b, sum, diff string }{
		{"1|2", "1|2", "1", "0"}, {"1|2", "-1|2", "0", "1"}, {"-1|2", "1|2", "0", "-1"}, {"-1|2", "-1|2", "-1", "0"},
		{"1|3", "2|3", "1", "-1|3"}, {"5|6", "1|6", "1", "2|3"}, {"7|2", "-3|2", "2", "5"}, {"1|3", "-1|2", "-1|6", "5|6"}, {"1|2", "-1|3", "1|6", "5|6"}, {"-1|2", "1|3", "-1|6", "-5|6"}, {"-1|3", "1|2", "1|6", "-5|6"}, {"-1|3", "-1|2", "-5|6", "1|6"}, {"1|6", "1|3", "1|2", "-1|6"},
		{"4294967295|4294967296", "1|4294967296", "1", "2147483647|2147483648"}, {"9223372036854775807", "1", "9223372036854775808", "9223372036854775806"}, {"-9223372036854775808", "1", "-9223372036854775807", "-9223372036854775809"},
	} {
		a, _ := Parse(x.a)
		b, _ := Parse(x.b)
		if got := Print(Add(a, b)); got != x.sum {
			t.Errorf("%s and %s: %s, not %s", x.a, x.b, got, x.sum)
		}
		if got := Print(Sub(a, b)); got != x.diff {
			t.Errorf("%s, less %s: %s, not %s", x.a, x.b, got, x.diff)
		}
	}
}

func TestByZeros(t *testing.T) {
	for _, a := range rats() {
		own, turned := value(a), new(big.Rat).Neg(value(a))
		for _, zero := range zeros() {
			says(t, "a and 0", Add(a, zero), own)
			says(t, "0 and a", Add(zero, a), own)
			says(t, "a, less 0", Sub(a, zero), own)
			says(t, "0, less a", Sub(zero, a), turned)
			says(t, "a times 0", Mul(a, zero), new(big.Rat))
			says(t, "0 times a", Mul(zero, a), new(big.Rat))
			q, e := Div(a, zero)
			fails(t, "a, divided by 0", q, e, api.ErrZero)
			if own.Sign() != 0 {
				q, e = Div(zero, a)
				tells(t, "0, divided by a", q, e, new(big.Rat))
			}
		}
	}
}

func TestByOneAndByItself(t *testing.T) {
	one, less := api.Rat{Num: []uint32{3, 0}, Den: []uint32{3}}, api.Rat{Neg: true, Num: []uint32{5}, Den: []uint32{5, 0}}
	for _, a := range others() {
		own, turned := value(a), new(big.Rat).Neg(value(a))
		says(t, "a times 1", Mul(a, one), own)
		says(t, "1 times a", Mul(one, a), own)
		says(t, "a times -1", Mul(a, less), turned)
		says(t, "-1 times a", Mul(less, a), turned)
		over := api.Rat{Neg: a.Neg, Num: a.Den, Den: a.Num}
		says(t, "a times a, turned over", Mul(a, over), part(1, 1))
		says(t, "a, turned over, times a", Mul(over, a), part(1, 1))
		says(t, "a and its opposite", Add(a, api.Rat{Neg: !a.Neg, Num: a.Num, Den: a.Den}), new(big.Rat))
		says(t, "a, less a", Sub(a, a), new(big.Rat))
		q, e := Div(a, a)
		tells(t, "a, divided by a", q, e, part(1, 1))
		q, e = Div(one, a)
		tells(t, "1, divided by a", q, e, new(big.Rat).Inv(own))
		q, e = Div(a, one)
		tells(t, "a, divided by 1", q, e, own)
		q, e = Div(a, less)
		tells(t, "a, divided by -1", q, e, turned)
	}
}

func TestDivByTheSigns(t *testing.T) {
	for _, x := range [][3]string{{"-2", "-3", "2|3"}, {"-2", "3", "-2|3"}, {"2", "-3", "-2|3"}, {"2", "3", "2|3"}, {"-1|2", "-1|4", "2"}, {"-6|5", "-3|10", "4"}, {"0", "-7|3", "0"}, {"-4", "6", "-2|3"}} {
		a, _ := Parse(x[0])
		b, _ := Parse(x[1])
		if q, e := Div(a, b); e != api.OK || Print(q) != x[2] {
			t.Errorf("%s, divided by %s: %s, %v", x[0], x[1], Print(q), e)
		}
	}
}

func TestManyWords(t *testing.T) {
	for n := range 12 {
		for m := range 12 {
			for signs := range 4 {
				a := api.Rat{Neg: signs&1 == 1, Num: mixed(n, uint32(n*m)), Den: mixed(m+1, uint32(m))}
				b := api.Rat{Neg: signs&2 == 2, Num: mixed(m, uint32(n+m)), Den: mixed(n+1, uint32(n))}
				reckoned(t, a, b)
			}
		}
	}
}

// P8.3

// power is a number to a power, reckoned by another means than the package's.
func power(a *big.Rat, n int) *big.Rat {
	p := part(1, 1)
	for range max(n, -n) {
		p.Mul(p, a)
	}
	if n < 0 {
		p.Inv(p)
	}
	return p
}

func TestPow(t *testing.T) {
	for _, a := range others() {
		n := value(a)
		for _, k := range []int{0, 1, 2, 3, 7, 8, 31, MaxPow - 1, MaxPow, -1, -2, -3, -7, -8, -31, 1 - MaxPow, -MaxPow} {
			got, e := Pow(a, k)
			tells(t, "Pow", got, e, power(n, k))
		}
	}
}

func TestPowOfOnes(t *testing.T) {
	one, less := api.Rat{Num: []uint32{4, 0}, Den: []uint32{4}}, api.Rat{Neg: true, Num: []uint32{7}, Den: []uint32{7, 0}}
	for n := -MaxPow; n <= MaxPow; n++ {
		got, e := Pow(one, n)
		tells(t, "1 to a power", got, e, part(1, 1))
		want := int64(1)
		if n%2 != 0 {
			want = -1
		}
		got, e = Pow(less, n)
		tells(t, "-1 to a power", got, e, part(want, 1))
	}
}

func TestPowOfZeros(t *testing.T) {
	for _, zero := range zeros() {
		got, e := Pow(zero, 0)
		tells(t, "0 to the power 0", got, e, part(1, 1))
		for _, n := range []int{1, 2, 5, MaxPow} {
			got, e = Pow(zero, n)
			tells(t, "0 to a power", got, e, new(big.Rat))
			got, e = Pow(zero, -n)
			fails(t, "0 to a power below 0", got, e, api.ErrZero)
		}
		for _, n := range []int{MaxPow + 1, -MaxPow - 1, math.MaxInt, math.MinInt} {
			got, e = Pow(zero, n)
			fails(t, "0 to a power beyond", got, e, api.ErrLong)
		}
	}
}

func TestPowBeyond(t *testing.T) {
	if MaxPow != 64 {
		t.Errorf("MaxPow is %d", MaxPow)
	}
	for _, a := range rats() {
		for _, n := range []int{MaxPow + 1, -MaxPow - 1, MaxPow + 2, 1000, -1000, math.MaxInt, math.MinInt, math.MinInt + 1} {
			got, e := Pow(a, n)
			fails(t, "Pow beyond", got, e, api.ErrLong)
		}
	}
}

func TestPowOfAsManyWordsAsThereMayBe(t *testing.T) {
	long := mixed(times.MaxWords/MaxPow, 77)
	for _, below := range []bool{false, true} {
		a := api.Rat{Neg: below, Num: long, Den: append(slices.Clone(long), 0, 0)}
		a.Den[0] ^= 1
		for _, n := range []int{MaxPow, -MaxPow} {
			got, e := Pow(a, n)
			tells(t, "Pow", got, e, power(value(a), n))
		}
	}
	// What counts is how many words the right one has.
	twos := times.Mul(long, long)
	got, e := Pow(api.Rat{Num: twos, Den: times.One(twos, 3, 0)}, -MaxPow)
	tells(t, "Pow", got, e, power(part(1, 3), -MaxPow))
}

// P8.4

func TestParse(t *testing.T) {
	for _, x := range []struct {
		s    string
		n, d int64
	}{
		{"0", 0, 1}, {"-0", 0, 1}, {"0|1", 0, 1}, {"0|5", 0, 1}, {"-0|5", 0, 1}, {"1", 1, 1}, {"-1", -1, 1}, {"1|1", 1, 1}, {"-1|1", -1, 1},
		{"4|6", 2, 3}, {"-4|6", -2, 3}, {"6|3", 2, 1}, {"-6|3", -2, 1}, {"10|100", 1, 10}, {"3|7", 3, 7}, {"7|3", 7, 3},
		{"4294967296|4294967295", 1 << 32, top}, {"-4294967295|4294967296", -top, 1 << 32}, {"9223372036854775807", math.MaxInt64, 1}, {"-9223372036854775808", math.MinInt64, 1}, {"9223372036854775807|9223372036854775806", math.MaxInt64, math.MaxInt64 - 1},
	} {
		got, e := Parse(x.s)
		tells(t, "Parse of "+x.s, got, e, part(x.n, x.d))
	}
}

// refused looks whether a text is refused, with that error.
func refused(t *testing.T, s string, want api.Errno) {
	t.Helper()
	got, e := Parse(s)
	fails(t, "Parse of "+s, got, e, want)
}

func TestParseRefusesWhatIsNoNumber(t *testing.T) {
	for _, s := range []string{
		"", "-", "|", "||", "-|", "|-", "1|", "-1|", "|1", "-|1", "|0", "0|", "1||2", "1|2|3", "1|2|", "|1|2", "|1|", "1|2||",
		"1|-2", "1|-", "-1|-2", "--1", "--1|2", "-1-|2", "1|2-", "-00", "00", "00|1", "01|2", "-01|2", "1|01", "1|00", "-1|00", "00|00", "0|00",
		"+1", "+1|2", "1|+2", "+", "-+1", "+-1", " ", " 1", "1 ", "- 1", "1 |2", "1| 2", "1|2 ", " 1|2", "1\t|2", "1|\n2", "1|2\n",
		"x", "1x", "x|1", "1|x", "1|2x", "1.5", "1|2.5", "1/2", "1:2", "1\\2", "1\x7c\x00", "1\xc2\xa6" + "2", "1\u00a62", "1\uff5c2", "1|\u0663", "\u0663|1", "\u22121", "1|\xff", "\xff|1", "1\x00", "1|2\x00",
	} {
		refused(t, s, api.ErrText)
	}
}

func TestParseRefusesZeroBelow(t *testing.T) {
	for _, s := range []string{"5|0", "0|0", "-0|0", "-5|0", "1|0", "4294967296|0"} {
		refused(t, s, api.ErrZero)
	}
}

func TestParseTellsTheFirstError(t *testing.T) {
	nines := strings.Repeat("9", deci.MaxDigits)
	for _, x := range []struct {
		s    string
		want api.Errno
	}{
		{"x|0", api.ErrText}, {"|0", api.ErrText}, {"-|0", api.ErrText}, {"00|0", api.ErrText}, {"--1|0", api.ErrText},
		{"x|" + nines + "9", api.ErrText}, {"|" + nines + "9", api.ErrText}, {"-|" + nines + "9", api.ErrText},
		{nines + "9|0", api.ErrLong}, {nines + "9|x", api.ErrLong}, {nines + "9|", api.ErrLong}, {"-" + nines + "9|0", api.ErrLong}, {nines + "x|0", api.ErrLong},
		{"1|" + nines + "9", api.ErrLong}, {"1|" + nines + "x", api.ErrLong}, {"1|0" + nines, api.ErrLong}, {"1|" + strings.Repeat("0", deci.MaxDigits+1), api.ErrLong}, {"1|-" + nines, api.ErrLong}, {"1|2|" + nines, api.ErrLong}, {"1|" + nines[2:] + "|9", api.ErrText}, {"1|" + nines[1:] + "|9", api.ErrLong},
		{"1|0|2", api.ErrText}, {"1|0x", api.ErrText}, {"1|0 ", api.ErrText}, {"1|00", api.ErrText}, {"1|-0", api.ErrText},
		{"1|" + nines[1:] + "x", api.ErrText}, {nines[1:] + "x|" + nines + "9", api.ErrText}, {"0" + nines[1:], api.ErrText},
	} {
		refused(t, x.s, x.want)
	}
}

func TestAsManyDigitsAsMayBeAndOneMore(t *testing.T) {
	nines := strings.Repeat("9", deci.MaxDigits)
	most := "1" + strings.Repeat("0", deci.MaxDigits-1)
	for _, s := range []string{nines, "-" + nines, nines + "|7", "-" + nines + "|" + most, "7|" + most, most + "|" + nines, "-1|" + nines} {
		want, _ := new(big.Rat).SetString(strings.Replace(s, "|", "/", 1))
		got, e := Parse(s)
		tells(t, "Parse", got, e, want)
		if Print(got) != s {
			t.Errorf("Print of %s: %s", s, Print(got))
		}
	}
	for _, s := range []string{nines + "9", "-" + nines + "9", nines + "9|7", "-" + nines + "9|7", "7|" + nines + "9", "-7|" + nines + "9", nines + "|" + nines + "9", nines + "9|" + nines} {
		refused(t, s, api.ErrLong)
	}
}

// told is a number's text, made by another means than the package's.
func told(n *big.Rat) string { return strings.Replace(n.RatString(), "/", "|", 1) }

func TestPrint(t *testing.T) {
	for _, zero := range zeros() {
		if got := Print(zero); got != "0" {
			t.Errorf("Print(%v) = %q", zero, got)
		}
	}
	for _, a := range rats() {
		if got, want := Print(a), told(value(a)); got != want {
			t.Errorf("Print(%v) = %q, not %q", a, got, want)
		}
	}
	for n := -40; n <= 40; n++ {
		for d := 1; d <= 40; d++ {
			a, _ := Make(whole.Of(n), whole.Of(d))
			if got, want := Print(a), told(part(int64(n), int64(d))); got != want {
				t.Errorf("%q, not %q", got, want)
			}
		}
	}
}

func TestWhatIsPrintedIsParsed(t *testing.T) {
	for _, a := range rats() {
		got, e := Parse(Print(a))
		tells(t, "printed and parsed", got, e, value(a))
	}
	refused(t, Print(api.Rat{Num: mixed(200, 5), Den: []uint32{1}}), api.ErrLong)
	refused(t, Print(api.Rat{Num: []uint32{1}, Den: mixed(200, 5)}), api.ErrLong)
}

// P8.5

func TestReckonedAsWithNumbers(t *testing.T) {
	thirds := []api.Rat{Of(-1), {Num: []uint32{6}, Den: []uint32{4, 0}}, {Neg: true, Num: []uint32{top, 5}, Den: []uint32{9}}}
	pairs(func(a, b api.Rat) {
		own := Fix(a)
		if !same(Add(a, b), Add(b, a)) || !same(Mul(a, b), Mul(b, a)) || !same(Sub(a, b), Neg(Sub(b, a))) {
			t.Errorf("%v and %v hang on their order", a, b)
		}
		if !same(Sub(Add(a, b), b), own) || !same(Add(Sub(a, b), b), own) {
			t.Errorf("%v: %v, added, isn't taken away again", a, b)
		}
		if q, e := Div(Mul(a, b), b); value(b).Sign() != 0 && (e != api.OK || !same(q, own)) {
			t.Errorf("%v times %v, divided: %v, %v", a, b, q, e)
		}
		if q, e := Div(a, b); e == api.OK && !same(Mul(q, b), own) {
			t.Errorf("%v divided by %v, multiplied: %v", a, b, q)
		}
		for _, c := range thirds {
			if !same(Add(Add(a, b), c), Add(a, Add(b, c))) || !same(Mul(Mul(a, b), c), Mul(a, Mul(b, c))) || !same(Mul(Add(a, b), c), Add(Mul(a, c), Mul(b, c))) {
				t.Errorf("%v, %v and %v", a, b, c)
			}
		}
	})
}

func TestPowersAreProducts(t *testing.T) {
	for _, a := range others()[:20] {
		for n := -6; n <= 6; n++ {
			for m := -6; m <= 6; m++ {
				p, _ := Pow(a, n)
				q, _ := Pow(a, m)
				both, _ := Pow(a, n+m)
				if !same(Mul(p, q), both) {
					t.Errorf("%v to the powers %d and %d", a, n, m)
				}
			}
		}
	}
}

// R5

// roomy is a list of its own with words behind its end that must stay as they are.
func roomy(list []uint32) []uint32 { return append(slices.Clone(list), 7, 8)[:len(list)] }

// copied is a Rat with such lists.
func copied(a api.Rat) api.Rat {
	return api.Rat{Neg: a.Neg, Num: roomy(a.Num), Den: roomy(a.Den)}
}

// cloned is a Rat with lists of its own.
func cloned(a api.Rat) api.Rat {
	return api.Rat{Neg: a.Neg, Num: slices.Clone(a.Num), Den: slices.Clone(a.Den)}
}

// fill writes over all the memory that a list has, also what lies behind its end.
func fill(list []uint32) {
	list = list[:cap(list)]
	for i := range list {
		list[i] = 0xdead
	}
}

// spoil writes over all the memory that a Rat has.
func spoil(a api.Rat) {
	fill(a.Num)
	fill(a.Den)
}

// kept tells whether a list of a copied Rat is as it was, also behind its end.
func kept(list, was []uint32) bool {
	return slices.Equal(list[:len(was)+2], append(slices.Clone(was), 7, 8))
}

// calls are all that take two Rats, or one, and answer one.
func calls() []func(a, b api.Rat) api.Rat {
	list := []func(a, b api.Rat) api.Rat{
		Add, Sub, Mul,
		func(a, b api.Rat) api.Rat { q, _ := Div(a, b); return q },
		func(a, _ api.Rat) api.Rat { return Fix(a) },
		func(a, _ api.Rat) api.Rat { return Neg(a) },
		func(a, b api.Rat) api.Rat {
			q, _ := Make(api.Int{Neg: a.Neg, Mag: a.Num}, api.Int{Neg: b.Neg, Mag: b.Den})
			return q
		},
	}
	for _, n := range []int{-2, -1, 0, 1, 3} {
		list = append(list, func(a, _ api.Rat) api.Rat { p, _ := Pow(a, n); return p })
	}
	return list
}

func TestWhatIsHandedInStaysAsItWas(t *testing.T) {
	pairs(func(a, b api.Rat) {
		x, y := copied(a), copied(b)
		for _, call := range calls() {
			spoil(call(x, y))
		}
		Cmp(x, y)
		Same(x, y)
		Right(x)
		Print(x)
		if !kept(x.Num, a.Num) || !kept(x.Den, a.Den) || !kept(y.Num, b.Num) || !kept(y.Den, b.Den) {
			t.Errorf("%v and %v became %v and %v", a, b, x, y)
		}
	})
}

func TestALaterChangeOfWhatWasHandedInIsNotSeen(t *testing.T) {
	pairs(func(a, b api.Rat) {
		for i, call := range calls() {
			x, y := copied(a), copied(b)
			got := call(x, y)
			want := cloned(got)
			spoil(x)
			spoil(y)
			if !same(got, want) {
				t.Errorf("call %d of %v and %v: %v became %v", i, a, b, want, got)
			}
		}
	})
}

func TestTheListsOfAnAnswerShareNoMemory(t *testing.T) {
	pairs(func(a, b api.Rat) {
		for i, call := range calls() {
			got := call(a, b)
			den := slices.Clone(got.Den)
			fill(got.Num)
			if !slices.Equal(got.Den, den) {
				t.Errorf("call %d of %v and %v: Num and Den share memory", i, a, b)
			}
		}
	})
}

func TestAnswersShareNoMemory(t *testing.T) {
	parsed := func(s string) func() api.Rat {
		return func() api.Rat { a, _ := Parse(s); return a }
	}
	for _, make := range []func() api.Rat{
		func() api.Rat { return Of(0) }, func() api.Rat { return Of(1) }, func() api.Rat { return Of(math.MinInt) },
		func() api.Rat { return Fix(api.Rat{}) }, func() api.Rat { return Neg(api.Rat{}) },
		parsed("0"), parsed("1"), parsed("-1|2"), parsed("4294967296|3"),
	} {
		first, second := make(), make()
		was := cloned(second)
		spoil(first)
		if third := make(); !same(second, was) || !same(third, was) {
			t.Errorf("%v: an answer shares memory", was)
		}
	}
}
