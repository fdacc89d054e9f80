package whole

import (
	"math"
	"math/big"
	"slices"
	"strings"
	"testing"

	"talweg/api"
	"talweg/deci"
	"talweg/nat"
)

const top = 1<<32 - 1

// lists are right ones and others, about the numbers at which words and their count turn over.
func lists() [][]uint32 {
	return [][]uint32{
		nil, {}, {0}, {0, 0, 0},
		{1}, {1, 0}, {1, 0, 0, 0}, {2}, {3, 0}, {5}, {1 << 16}, {1 << 31}, {top - 1}, {top}, {top, 0},
		{0, 1}, {1, 1}, {0, 1, 0}, {5, 1}, {top, 1}, {0, 1 << 31}, {top, 1<<31 - 1}, {0, top}, {1, top}, {top, top}, {top, top, 0, 0},
		{0, 0, 1}, {0, 0, 1, 0}, {top, 0, 1}, {0, top, 1}, {top, top, top}, {top, 0, top, 0, top},
		{3, 1, 4, 1, 5, 9}, {3, 1, 4, 1, 5, 9, 0}, {0, 0, 0, 7, 0, 0, 8},
		slices.Repeat([]uint32{top}, 20), append(make([]uint32, 20), 1), mixed(30, 3),
	}
}

// mixed is a list of words without a pattern that counts.
func mixed(n int, seed uint32) []uint32 {
	list := make([]uint32, n)
	for i := range list {
		seed = seed*1664525 + 1013904223
		list[i] = seed ^ seed>>15
	}
	return list
}

// ints are all lists, each with either sign.
func ints() []api.Int {
	var all []api.Int
	for _, mag := range lists() {
		all = append(all, api.Int{Mag: mag}, api.Int{Neg: true, Mag: slices.Clone(mag)})
	}
	return all
}

// zeros are right and other ones that count as 0.
func zeros() []api.Int {
	return []api.Int{
		{}, {Mag: []uint32{}}, {Mag: []uint32{0}}, {Mag: []uint32{0, 0, 0}},
		{Neg: true}, {Neg: true, Mag: []uint32{}}, {Neg: true, Mag: []uint32{0}}, {Neg: true, Mag: []uint32{0, 0, 0}},
	}
}

// pairs calls f with all two of the ints.
func pairs(f func(a, b api.Int)) {
	for _, a := range ints() {
		for _, b := range ints() {
			f(a, b)
		}
	}
}

// number is what an Int says, reckoned by another means than the package's.
func number(a api.Int) *big.Int {
	n := new(big.Int)
	for _, w := range slices.Backward(a.Mag) {
		n.Lsh(n, 32).Or(n, new(big.Int).SetUint64(uint64(w)))
	}
	if a.Neg {
		n.Neg(n)
	}
	return n
}

// right is a number's right Int, made by another means than the package's.
func right(n *big.Int) api.Int {
	a := api.Int{Neg: n.Sign() < 0}
	for rest := new(big.Int).Abs(n); rest.Sign() > 0; rest.Rsh(rest, 32) {
		a.Mag = append(a.Mag, uint32(rest.Uint64()))
	}
	return a
}

// same tells whether two Ints have the same sign and the same words, as they are.
func same(a, b api.Int) bool { return a.Neg == b.Neg && slices.Equal(a.Mag, b.Mag) }

// says looks whether an answer is a number's right Int.
func says(t *testing.T, call string, got api.Int, want *big.Int) {
	t.Helper()
	if !same(got, right(want)) {
		t.Errorf("%s = %v, not %v", call, got, want)
	}
}

// copied is an Int with words of its own, and with words behind their end that must stay as they are.
func copied(a api.Int) api.Int {
	room := append(slices.Clone(a.Mag), 7, 8)
	return api.Int{Neg: a.Neg, Mag: room[:len(a.Mag)]}
}

// P7.1

func TestRight(t *testing.T) {
	for _, x := range []struct {
		a    api.Int
		want bool
	}{
		{api.Int{}, true}, {api.Int{Mag: []uint32{}}, true}, {api.Int{Neg: true}, false}, {api.Int{Neg: true, Mag: []uint32{}}, false},
		{api.Int{Mag: []uint32{0}}, false}, {api.Int{Neg: true, Mag: []uint32{0}}, false}, {api.Int{Mag: []uint32{0, 0}}, false}, {api.Int{Neg: true, Mag: []uint32{0, 0}}, false},
		{api.Int{Mag: []uint32{1}}, true}, {api.Int{Neg: true, Mag: []uint32{1}}, true}, {api.Int{Mag: []uint32{1, 0}}, false}, {api.Int{Neg: true, Mag: []uint32{1, 0}}, false},
		{api.Int{Mag: []uint32{0, 1}}, true}, {api.Int{Neg: true, Mag: []uint32{0, 1}}, true}, {api.Int{Mag: []uint32{0, 1, 0}}, false}, {api.Int{Neg: true, Mag: []uint32{0, 1, 0}}, false},
		{api.Int{Mag: []uint32{top, top}}, true}, {api.Int{Neg: true, Mag: []uint32{top, top}}, true},
	} {
		if got := Right(x.a); got != x.want {
			t.Errorf("Right(%v) = %t", x.a, got)
		}
	}
}

func TestRightIsWhatIsItsOwnRightOne(t *testing.T) {
	for _, a := range ints() {
		if got, want := Right(a), same(a, right(number(a))); got != want {
			t.Errorf("Right(%v) = %t", a, got)
		}
	}
}

func TestFixAndNeg(t *testing.T) {
	for _, a := range ints() {
		n := number(a)
		says(t, "Fix", Fix(a), n)
		says(t, "Neg", Neg(a), new(big.Int).Neg(n))
		says(t, "Neg of Neg", Neg(Neg(a)), n)
		if !Right(Fix(a)) || !Right(Neg(a)) {
			t.Errorf("%v: what is answered isn't right", a)
		}
	}
}

func TestZeroHasNoSign(t *testing.T) {
	for _, zero := range zeros() {
		for _, got := range []api.Int{Fix(zero), Neg(zero), Neg(Neg(zero)), Of(0)} {
			if got.Neg || len(got.Mag) != 0 {
				t.Errorf("of %v: %v", zero, got)
			}
		}
	}
}

func TestOf(t *testing.T) {
	for _, n := range []int{
		0, 1, -1, 2, -2, 10, -10, 1 << 16, -1 << 16, 1<<31 - 1, 1 << 31, -1 << 31, -1<<31 - 1,
		top, -top, top + 1, -top - 1, top + 2, -top - 2, 1 << 62, -1 << 62,
		math.MaxInt - 1, math.MaxInt, math.MinInt + 1, math.MinInt,
	} {
		says(t, "Of", Of(n), big.NewInt(int64(n)))
	}
	for n := -3000; n <= 3000; n++ {
		says(t, "Of", Of(n), big.NewInt(int64(n)))
	}
	if least := Of(math.MinInt); !least.Neg || !slices.Equal(least.Mag, []uint32{0, 1 << 31}) {
		t.Errorf("the least int: %v", least)
	}
}

func TestCmp(t *testing.T) {
	for _, x := range []struct {
		a, b api.Int
		want int
	}{
		{Of(-5), Of(-4), -1}, {Of(-4), Of(-5), 1}, {Of(-1), Of(0), -1}, {Of(0), Of(-1), 1}, {Of(9), Of(9), 0}, {Of(-9), Of(-9), 0}, {Of(2), Of(-3), 1}, {Of(-3), Of(2), -1}, {Of(-2), Of(3), -1}, {Of(3), Of(-3), 1}, {Of(-3), Of(3), -1},
		{Of(top), Of(top + 1), -1}, {Of(-top), Of(-top - 1), 1}, {Of(-top - 1), Of(top), -1}, {Of(math.MinInt), Of(math.MaxInt), -1},
	} {
		if got := Cmp(x.a, x.b); got != x.want {
			t.Errorf("Cmp(%v, %v) = %d", x.a, x.b, got)
		}
	}
	pairs(func(a, b api.Int) {
		if got, want := Cmp(a, b), number(a).Cmp(number(b)); got != want {
			t.Errorf("Cmp(%v, %v) = %d, not %d", a, b, got, want)
		}
	})
}

func TestZerosAreOneNumber(t *testing.T) {
	for _, a := range zeros() {
		for _, b := range zeros() {
			if got := Cmp(a, b); got != 0 {
				t.Errorf("Cmp(%v, %v) = %d", a, b, got)
			}
		}
		if Cmp(a, Of(1)) != -1 || Cmp(Of(1), a) != 1 || Cmp(a, Of(-1)) != 1 || Cmp(Of(-1), a) != -1 {
			t.Errorf("%v isn't between -1 and 1", a)
		}
	}
}

// P7.2

func TestSmallSumsAndProducts(t *testing.T) {
	for n := -40; n <= 40; n++ {
		for m := -40; m <= 40; m++ {
			a, b := Of(n), Of(m)
			if got := Add(a, b); !same(got, Of(n+m)) {
				t.Errorf("%d and %d: %v", n, m, got)
			}
			if got := Sub(a, b); !same(got, Of(n-m)) {
				t.Errorf("%d, less %d: %v", n, m, got)
			}
			if got := Mul(a, b); !same(got, Of(n*m)) {
				t.Errorf("%d times %d: %v", n, m, got)
			}
		}
	}
}

func TestEveryTwo(t *testing.T) {
	pairs(func(a, b api.Int) {
		x, y := number(a), number(b)
		says(t, "Add", Add(a, b), new(big.Int).Add(x, y))
		says(t, "Sub", Sub(a, b), new(big.Int).Sub(x, y))
		says(t, "Mul", Mul(a, b), new(big.Int).Mul(x, y))
	})
}

func TestWhatComesToZero(t *testing.T) {
	for _, a := range ints() {
		padded := api.Int{Neg: a.Neg, Mag: append(slices.Clone(a.Mag), 0, 0)}
		turned := api.Int{Neg: !a.Neg, Mag: padded.Mag}
		for _, got := range []api.Int{Add(a, turned), Add(turned, a), Add(a, Neg(a)), Sub(a, padded), Sub(padded, a), Sub(a, a)} {
			if got.Neg || len(got.Mag) != 0 {
				t.Errorf("of %v: %v", a, got)
			}
		}
		for _, zero := range zeros() {
			for _, got := range []api.Int{Mul(a, zero), Mul(zero, a)} {
				if got.Neg || len(got.Mag) != 0 {
					t.Errorf("%v times %v: %v", a, zero, got)
				}
			}
		}
	}
}

func TestByZeroAndOne(t *testing.T) {
	for _, a := range ints() {
		own, turned := right(number(a)), right(new(big.Int).Neg(number(a)))
		for _, zero := range zeros() {
			if !same(Add(a, zero), own) || !same(Add(zero, a), own) || !same(Sub(a, zero), own) || !same(Sub(zero, a), turned) {
				t.Errorf("%v and %v: %v, %v, %v, %v", a, zero, Add(a, zero), Add(zero, a), Sub(a, zero), Sub(zero, a))
			}
		}
		one, less := api.Int{Mag: []uint32{1, 0}}, api.Int{Neg: true, Mag: []uint32{1, 0}}
		if !same(Mul(a, one), own) || !same(Mul(one, a), own) || !same(Mul(a, less), turned) || !same(Mul(less, a), turned) {
			t.Errorf("%v by 1 and -1: %v, %v", a, Mul(a, one), Mul(a, less))
		}
	}
}

func TestAboutTheEndsOfInts(t *testing.T) {
	one := Of(1)
	for _, x := range []struct {
		got  api.Int
		want string
	}{
		{Add(Of(math.MaxInt), one), "9223372036854775808"}, {Sub(Of(math.MinInt), one), "-9223372036854775809"}, {Neg(Of(math.MinInt)), "9223372036854775808"},
		{Add(Of(math.MinInt), Of(math.MaxInt)), "-1"}, {Sub(Of(math.MaxInt), Of(math.MinInt)), "18446744073709551615"}, {Mul(Of(math.MinInt), Of(math.MinInt)), "85070591730234615865843651857942052864"}, {Mul(Of(math.MinInt), Of(-1)), "9223372036854775808"},
		{Add(Of(top), one), "4294967296"}, {Sub(Of(-top), one), "-4294967296"}, {Add(Of(-top-1), one), "-4294967295"}, {Sub(Of(top+1), one), "4294967295"}, {Sub(Of(-top-1), Of(-top-1)), "0"}, {Add(Of(-top-1), Of(-top-1)), "-8589934592"},
		{Add(Of(-5), Of(3)), "-2"}, {Add(Of(5), Of(-3)), "2"}, {Add(Of(3), Of(-5)), "-2"}, {Add(Of(-3), Of(5)), "2"}, {Sub(Of(3), Of(5)), "-2"}, {Sub(Of(-3), Of(-5)), "2"}, {Sub(Of(-5), Of(-3)), "-2"}, {Sub(Of(-5), Of(3)), "-8"},
	} {
		if got := Print(x.got); got != x.want {
			t.Errorf("%s, not %s", got, x.want)
		}
	}
}

func TestManyWords(t *testing.T) {
	for n := range 20 {
		for m := range 20 {
			for signs := range 4 {
				a := api.Int{Neg: signs&1 == 1, Mag: mixed(n, uint32(n*m))}
				b := api.Int{Neg: signs&2 == 2, Mag: mixed(m, uint32(n+m))}
				x, y := number(a), number(b)
				says(t, "Add", Add(a, b), new(big.Int).Add(x, y))
				says(t, "Sub", Sub(a, b), new(big.Int).Sub(x, y))
				says(t, "Mul", Mul(a, b), new(big.Int).Mul(x, y))
			}
		}
	}
}

// P7.3

func TestParse(t *testing.T) {
	for _, x := range []struct {
		s    string
		want api.Int
	}{
		{"0", api.Int{}}, {"-0", api.Int{}}, {"1", Of(1)}, {"-1", Of(-1)}, {"10", Of(10)}, {"-10", Of(-10)},
		{"4294967295", api.Int{Mag: []uint32{top}}}, {"-4294967295", api.Int{Neg: true, Mag: []uint32{top}}}, {"4294967296", api.Int{Mag: []uint32{0, 1}}}, {"-4294967296", api.Int{Neg: true, Mag: []uint32{0, 1}}},
		{"9223372036854775807", Of(math.MaxInt)}, {"-9223372036854775808", Of(math.MinInt)},
		{"-79228162514264337593543950336", api.Int{Neg: true, Mag: []uint32{0, 0, 0, 1}}},
	} {
		if a, e := Parse(x.s); e != api.OK || !same(a, x.want) {
			t.Errorf("Parse(%q) = %v, %v", x.s, a, e)
		}
	}
}

// refused looks whether a text is refused, with that error and with 0.
func refused(t *testing.T, s string, want api.Errno) {
	t.Helper()
	if a, e := Parse(s); e != want || a.Neg || len(a.Mag) != 0 {
		t.Errorf("Parse(%q) = %v, %v, not %v", s, a, e, want)
	}
}

func TestParseRefusesWhatIsNoNumber(t *testing.T) {
	for _, s := range []string{
		"", "-", "--", "--1", "---1", "--0", "-00", "-01", "-007", "00", "01", "+1", "+0", "+", "-+1", "+-1", "1-", "-1-", "1-2", "0-",
		" ", " 1", "1 ", "- 1", "-1 ", " -1", "-\t1", "-\n1", "-\u00a01", "-x", "-1x", "x-1", "-1.5", "-1|2", "-/", "-:", "-\x00", "-\xff", "-1\xff",
		"\u22121", "\u20131", "\uff0d1", "-\u0663", "-\uff11", "\xad1",
	} {
		refused(t, s, api.ErrText)
	}
}

func TestAsManyDigitsAsMayBeAndOneMore(t *testing.T) {
	nines := strings.Repeat("9", deci.MaxDigits)
	for _, s := range []string{nines, "-" + nines, "-1" + strings.Repeat("0", deci.MaxDigits-1)} {
		n, _ := new(big.Int).SetString(s, 10)
		if a, e := Parse(s); e != api.OK || !same(a, right(n)) || Print(a) != s {
			t.Errorf("%d bytes: %v, %v", len(s), a, e)
		}
	}
	refused(t, nines+"9", api.ErrLong)
	refused(t, "-"+nines+"9", api.ErrLong)
	refused(t, "-0"+nines, api.ErrLong)
	refused(t, "-"+strings.Repeat("0", deci.MaxDigits+1), api.ErrLong)
	refused(t, "-"+nines+"x", api.ErrLong)
	refused(t, "--"+nines, api.ErrLong)
	refused(t, "--"+nines[1:], api.ErrText)
	refused(t, "-"+nines[1:]+"x", api.ErrText)
	refused(t, "-0"+nines[1:], api.ErrText)
	refused(t, nines+"-", api.ErrLong)
}

func TestPrint(t *testing.T) {
	for _, zero := range zeros() {
		if got := Print(zero); got != "0" {
			t.Errorf("Print(%v) = %q", zero, got)
		}
	}
	for _, a := range ints() {
		if got, want := Print(a), number(a).String(); got != want {
			t.Errorf("Print(%v) = %q, not %q", a, got, want)
		}
	}
	for n := -2000; n <= 2000; n++ {
		if got, want := Print(Of(n)), big.NewInt(int64(n)).String(); got != want {
			t.Errorf("%q, not %q", got, want)
		}
	}
}

func TestWhatIsPrintedIsParsed(t *testing.T) {
	for _, a := range ints() {
		if got, e := Parse(Print(a)); e != api.OK || !same(got, right(number(a))) {
			t.Errorf("%v, printed and parsed: %v, %v", a, got, e)
		}
	}
	long := api.Int{Neg: true, Mag: mixed(200, 5)}
	refused(t, Print(long), api.ErrLong)
}

// P7.4

func TestEachIntegerIsOneRightInt(t *testing.T) {
	pairs(func(a, b api.Int) {
		one := number(a).Cmp(number(b)) == 0
		if same(Fix(a), Fix(b)) != one || (Cmp(a, b) == 0) != one {
			t.Errorf("%v and %v", a, b)
		}
		if Right(a) && Right(b) && one && !same(a, b) {
			t.Errorf("%v and %v are one number, and both right", a, b)
		}
	})
}

func TestSumsAndProductsHangOnNoOrder(t *testing.T) {
	pairs(func(a, b api.Int) {
		if !same(Add(a, b), Add(b, a)) || !same(Mul(a, b), Mul(b, a)) || !same(Sub(a, b), Neg(Sub(b, a))) {
			t.Errorf("%v and %v", a, b)
		}
		for _, c := range []api.Int{Of(-1), Of(top), {Neg: true, Mag: []uint32{5, 7, 9, 0}}} {
			if !same(Add(Add(a, b), c), Add(a, Add(b, c))) || !same(Mul(Mul(a, b), c), Mul(a, Mul(b, c))) || !same(Mul(Add(a, b), c), Add(Mul(a, c), Mul(b, c))) {
				t.Errorf("%v, %v and %v", a, b, c)
			}
		}
	})
}

// R5

// spoil writes over all the memory that an answer has, also what lies behind its end.
func spoil(a api.Int) {
	words := a.Mag[:cap(a.Mag)]
	for i := range words {
		words[i] = 0xdead
	}
}

// calls are all that take two Ints, or one, and answer one.
func calls() []func(a, b api.Int) api.Int {
	return []func(a, b api.Int) api.Int{
		Add, Sub, Mul,
		func(a, _ api.Int) api.Int { return Fix(a) },
		func(a, _ api.Int) api.Int { return Neg(a) },
	}
}

func TestWhatIsHandedInStaysAsItWas(t *testing.T) {
	pairs(func(a, b api.Int) {
		x, y := copied(a), copied(b)
		for _, call := range calls() {
			spoil(call(x, y))
		}
		Cmp(x, y)
		Right(x)
		Print(x)
		for _, two := range [][2]api.Int{{x, a}, {y, b}} {
			if room := two[0].Mag[:len(two[1].Mag)+2]; !slices.Equal(room, append(slices.Clone(two[1].Mag), 7, 8)) {
				t.Errorf("%v became %v", two[1], room)
			}
		}
	})
}

func TestALaterChangeOfWhatWasHandedInIsNotSeen(t *testing.T) {
	pairs(func(a, b api.Int) {
		for i, call := range calls() {
			x, y := copied(a), copied(b)
			got := call(x, y)
			want := api.Int{Neg: got.Neg, Mag: slices.Clone(got.Mag)}
			spoil(x)
			spoil(y)
			if !same(got, want) || !nat.Right(got.Mag) {
				t.Errorf("call %d of %v and %v: %v became %v", i, a, b, want, got)
			}
		}
	})
}

func TestAnswersShareNoMemory(t *testing.T) {
	for _, make := range []func() api.Int{
		func() api.Int { return Of(7) },
		func() api.Int { return Of(math.MinInt) },
		func() api.Int { a, _ := Parse("-1"); return a },
		func() api.Int { a, _ := Parse("-4294967296"); return a },
	} {
		first, second := make(), make()
		was := api.Int{Neg: second.Neg, Mag: slices.Clone(second.Mag)}
		spoil(first)
		if third := make(); !same(second, was) || !same(third, was) {
			t.Errorf("%v: an answer shares memory", was)
		}
	}
}
