package deci

import (
	"math/big"
	"slices"
	"strings"
	"testing"

	"talweg/api"
	"talweg/nat"
)

const top = 1<<32 - 1

// lists are right ones and others, about the numbers at which words, their count, and groups of digits turn over.
func lists() [][]uint32 {
	return [][]uint32{
		nil, {}, {0}, {0, 0, 0},
		{1}, {1, 0}, {1, 0, 0, 0}, {9}, {10, 0}, {1 << 16}, {999999999}, {1000000000}, {1000000001, 0}, {1 << 31}, {top - 1}, {top}, {top, 0},
		{0, 1}, {1, 1}, {0, 1, 0}, {5, 1}, {top, 1}, {0, 1 << 31}, {0, top}, {1, top}, {top, top}, {top, top, 0, 0},
		{0, 0, 1}, {0, 0, 1, 0}, {top, 0, 1}, {0, top, 1}, {top, top, top}, {top, 0, top, 0, top},
		{3, 1, 4, 1, 5, 9}, {3, 1, 4, 1, 5, 9, 0}, {0, 0, 0, 7, 0, 0, 8},
		slices.Repeat([]uint32{top}, 40), append(make([]uint32, 40), 1), append(slices.Repeat([]uint32{top}, 33), 0, 0), mixed(100, 3),
	}
}

// mixed is a list of words without a pattern that counts.
func mixed(n int, seed uint32) []uint32 {
	list := make([]uint32, n)
	for i := range list {
		seed = seed*1664525 + 1013904223
		list[i] = seed ^ seed>>15
	}
	return list
}

// number is what a list of words says, reckoned by another means than the package's.
func number(a []uint32) *big.Int {
	n := new(big.Int)
	for _, w := range slices.Backward(a) {
		n.Lsh(n, 32).Or(n, new(big.Int).SetUint64(uint64(w)))
	}
	return n
}

// words are a number's, the lowest one first, without a 0 at the end.
func words(n *big.Int) []uint32 {
	var a []uint32
	for n = new(big.Int).Set(n); n.Sign() > 0; n.Rsh(n, 32) {
		a = append(a, uint32(n.Uint64()))
	}
	return a
}

// power is ten to a power, and a few more, or less.
func power(n, more int64) *big.Int {
	p := new(big.Int).Exp(big.NewInt(10), big.NewInt(n), nil)
	return p.Add(p, big.NewInt(more))
}

// aboutPowers are the numbers one below, at and one above each power of ten, up to those that are too long to be parsed.
func aboutPowers() []*big.Int {
	var all []*big.Int
	for n := range int64(MaxDigits + 2) {
		all = append(all, power(n, -1), power(n, 0), power(n, 1))
	}
	return all
}

// refused looks whether a text is refused, with that error and without words.
func refused(t *testing.T, s string, want api.Errno) {
	t.Helper()
	if a, e := Parse(s); e != want || len(a) != 0 {
		t.Errorf("Parse(%q) = %v, %v, not %v", s, a, e, want)
	}
}

// read looks whether a text is parsed as the nat that math/big reads in it.
func read(t *testing.T, s string) {
	t.Helper()
	want, ok := new(big.Int).SetString(s, 10)
	if !ok {
		t.Fatalf("%q is no number", s)
	}
	if a, e := Parse(s); e != api.OK || !slices.Equal(a, words(want)) {
		t.Errorf("Parse(%q) = %v, %v", s, a, e)
	}
}

// told looks whether a list is told by the digits that math/big tells of its number.
func told(t *testing.T, a []uint32) {
	t.Helper()
	want := number(a).String()
	if got := Print(a); got != want {
		t.Errorf("Print(%v) = %q, not %q", a, got, want)
	}
	if got := Digits(a); got != len(want) {
		t.Errorf("Digits(%v) = %d, not %d", a, got, len(want))
	}
}

// P6.1

func TestParse(t *testing.T) {
	for _, x := range []struct {
		s    string
		want []uint32
	}{
		{"0", nil}, {"1", []uint32{1}}, {"7", []uint32{7}}, {"9", []uint32{9}}, {"10", []uint32{10}}, {"1234567890", []uint32{1234567890}}, {"9876543210", []uint32{1286608618, 2}},
		{"4294967295", []uint32{top}}, {"4294967296", []uint32{0, 1}}, {"4294967297", []uint32{1, 1}},
		{"18446744073709551615", []uint32{top, top}}, {"18446744073709551616", []uint32{0, 0, 1}},
		{"79228162514264337593543950335", []uint32{top, top, top}}, {"79228162514264337593543950336", []uint32{0, 0, 0, 1}},
	} {
		if a, e := Parse(x.s); e != api.OK || !slices.Equal(a, x.want) {
			t.Errorf("Parse(%q) = %v, %v", x.s, a, e)
		}
	}
}

func TestParseOfEveryShortNumber(t *testing.T) {
	for n := range uint64(20000) {
		s := new(big.Int).SetUint64(n).String()
		if a, e := Parse(s); e != api.OK || !slices.Equal(a, nat.Of(n)) {
			t.Errorf("Parse(%q) = %v, %v", s, a, e)
		}
	}
}

func TestParseAboutEveryPowerOfTen(t *testing.T) {
	for _, n := range aboutPowers() {
		if s := n.String(); len(s) <= MaxDigits {
			read(t, s)
		}
	}
}

func TestParseOfManyDigits(t *testing.T) {
	digits := strings.Repeat("9070050003", MaxDigits/10)
	for n := 1; n <= MaxDigits; n++ {
		read(t, digits[:n])
	}
	for d := '1'; d <= '9'; d++ {
		read(t, strings.Repeat(string(d), MaxDigits))
	}
}

func TestParseRefusesWhatIsNoNumber(t *testing.T) {
	for _, s := range []string{
		"", "00", "01", "007", "000000", "0000000000000000000000", "0123456789", "0a", "0 ", "00x",
		"-", "+", "-0", "-1", "+1", "+0", "--1", "1-", "1-2", "1+",
		" ", " 1", "1 ", "1 2", "\t1", "1\n", "\r1", "1\r\n", "\v1", "1\f", "\u00a01", "1\u2003", "1\u30002", "\ufeff1",
		"/", ":", "/1", ":1", "1/", "1:", "1/2", "1:2", "x", "1a", "a1", "1x2", "0x10", "1e3", "1.0", "1,000", "1_000", "1|2", "٫",
		"\x00", "1\x00", "\x001", "1\x7f",
		"ä", "1ä", "ä1", "1€2", "😀", "12😀", "\ufffd", "1\ufffd",
		"\x80", "\xff", "1\xff", "\xb0", "1\xb12", "\xc3", "1\xc3", "\xc3(", "\xc0\xb1", "\xe0\x80\xb1", "\xf0\x80\x80\xb1", "\xed\xa0\x80", "\xf4\x90\x80\x80",
		"\u0663", "1\u0663", "\u06f5", "\u096a", "\uff11", "1\uff110", "\u00b2", "\u2460", "\u2168", "\U0001d7d9", "一",
	} {
		refused(t, s, api.ErrText)
	}
}

func TestParseTakesNoByteButDigitsAnywhere(t *testing.T) {
	for b := range 256 {
		for _, s := range []string{"", "4", "4711"} {
			for at := range len(s) + 1 {
				text := s[:at] + string([]byte{byte(b)}) + s[at:]
				if digit := b >= 48 && b <= 57; !digit || b == 48 && at == 0 && s != "" {
					refused(t, text, api.ErrText)
				} else {
					read(t, text)
				}
			}
		}
	}
}

func TestParseTakesNoSignOfMoreBytesWhoseLastOnesLookLikeADigit(t *testing.T) {
	// A rune that is cut down to a byte, or to the bits that a digit has, might pass for one.
	for d := rune('0'); d <= '9'; d++ {
		for _, above := range []rune{0x80, 0x100, 0x200, 0x700, 0x3000, 0x10000, 0x100000} {
			refused(t, string(above|d), api.ErrText)
			refused(t, "1"+string(above|d)+"2", api.ErrText)
		}
	}
}

func TestParseOfAsManyBytesAsMayBeAndOfOneMore(t *testing.T) {
	if MaxDigits != 1000 {
		t.Fatalf("MaxDigits = %d", MaxDigits)
	}
	nines := strings.Repeat("9", MaxDigits)
	read(t, nines)
	read(t, "1"+nines[:MaxDigits-1])
	read(t, "1"+strings.Repeat("0", MaxDigits-1))
	for _, s := range []string{nines + "9", "1" + strings.Repeat("0", MaxDigits), nines + nines, strings.Repeat(nines, 100)} {
		refused(t, s, api.ErrLong)
	}
}

func TestTooLongComesAheadOfWhatIsNoDigit(t *testing.T) {
	nines := strings.Repeat("9", MaxDigits)
	for _, sign := range []string{"x", "-", " ", "/", ":", "\x00", "\xff", "ä", "\u0663", "\uff11", "😀"} {
		fits := MaxDigits - len(sign)
		for _, at := range []int{0, 1, fits / 2, fits} {
			refused(t, nines[:at]+sign+nines[at:fits], api.ErrText)
			refused(t, nines[:at]+sign+nines[at:fits+1], api.ErrLong)
		}
	}
	refused(t, "0"+nines[1:], api.ErrText)
	refused(t, "0"+nines, api.ErrLong)
	refused(t, strings.Repeat("0", MaxDigits), api.ErrText)
	refused(t, strings.Repeat("0", MaxDigits+1), api.ErrLong)
	refused(t, strings.Repeat(" ", MaxDigits+1), api.ErrLong)
}

func TestBytesCountNotSigns(t *testing.T) {
	// So many signs would go into MaxDigits, but not their bytes.
	refused(t, strings.Repeat("\u0663", MaxDigits/2), api.ErrText)
	refused(t, strings.Repeat("\u0663", MaxDigits/2+1), api.ErrLong)
	refused(t, strings.Repeat("9", MaxDigits-1)+"ä", api.ErrLong)
	refused(t, strings.Repeat("9", MaxDigits-2)+"ä", api.ErrText)
}

// P6.2

func TestPrintAndDigits(t *testing.T) {
	for _, x := range []struct {
		a    []uint32
		want string
	}{
		{nil, "0"}, {[]uint32{}, "0"}, {[]uint32{0}, "0"}, {[]uint32{0, 0, 0}, "0"},
		{[]uint32{1}, "1"}, {[]uint32{5, 0}, "5"}, {[]uint32{9, 0, 0}, "9"}, {[]uint32{10}, "10"}, {[]uint32{1000, 0}, "1000"},
		{[]uint32{100000000}, "100000000"}, {[]uint32{999999999}, "999999999"}, {[]uint32{1000000000}, "1000000000"}, {[]uint32{1000000007}, "1000000007"},
		{[]uint32{top}, "4294967295"}, {[]uint32{0, 1}, "4294967296"}, {[]uint32{0, 1, 0}, "4294967296"}, {[]uint32{top, top}, "18446744073709551615"},
		{[]uint32{2808348672, 232830643}, "1000000000000000000"}, {[]uint32{0, 0, 1}, "18446744073709551616"},
	} {
		if got := Print(x.a); got != x.want {
			t.Errorf("Print(%v) = %q, not %q", x.a, got, x.want)
		}
		if got := Digits(x.a); got != len(x.want) {
			t.Errorf("Digits(%v) = %d, not %d", x.a, got, len(x.want))
		}
	}
}

func TestPrintOfEveryList(t *testing.T) {
	for _, a := range lists() {
		told(t, a)
		told(t, append(slices.Clone(a), 0, 0))
	}
}

func TestPrintOfEveryShortNumber(t *testing.T) {
	for n := range uint64(20000) {
		told(t, nat.Of(n))
	}
}

func TestPrintAboutEveryPowerOfTen(t *testing.T) {
	for _, n := range aboutPowers() {
		told(t, words(n))
	}
}

func TestPrintOfPowersOfTenCountsTheirDigits(t *testing.T) {
	for n := range 60 {
		zeros := strings.Repeat("0", n)
		if a := words(power(int64(n), 0)); Print(a) != "1"+zeros || Digits(a) != n+1 {
			t.Errorf("10 to the power %d: %q, %d", n, Print(a), Digits(a))
		}
		if a := words(power(int64(n+1), -1)); Print(a) != strings.Repeat("9", n+1) || Digits(a) != n+1 {
			t.Errorf("10 to the power %d, less 1: %q, %d", n+1, Print(a), Digits(a))
		}
	}
}

func TestPrintKeepsZerosAmidItsDigits(t *testing.T) {
	for gap := range 60 {
		for _, ends := range [][2]string{{"1", "1"}, {"7", "90"}, {"12345678", "5"}, {"123456789", "5"}, {"1234567890", "50"}} {
			s := ends[0] + strings.Repeat("0", gap) + ends[1]
			n, _ := new(big.Int).SetString(s, 10)
			if a := words(n); Print(a) != s || Digits(a) != len(s) {
				t.Errorf("%s: %q, %d", s, Print(a), Digits(a))
			}
		}
	}
}

func TestPrintOfWordsOfAllBits(t *testing.T) {
	for n := range 150 {
		told(t, slices.Repeat([]uint32{top}, n))
		told(t, append(make([]uint32, n), 1))
	}
}

func TestPrintOfManyWords(t *testing.T) {
	for _, a := range [][]uint32{mixed(4096, 1), slices.Repeat([]uint32{top}, 3000), append(make([]uint32, 2500), 1), append([]uint32{7}, make([]uint32, 1<<20)...)} {
		if want := number(nat.Trim(a)).String(); Print(a) != want || Digits(a) != len(want) {
			t.Errorf("%d words are told by other digits", len(a))
		}
	}
}

// P6.3

func TestWhatIsPrintedIsParsed(t *testing.T) {
	again := func(a []uint32) {
		got, e := Parse(Print(a))
		switch {
		case Digits(a) > MaxDigits:
			if e != api.ErrLong || len(got) != 0 {
				t.Errorf("%v is too long, but: %v, %v", a, got, e)
			}
		case e != api.OK || !slices.Equal(got, nat.Trim(a)):
			t.Errorf("%v, printed and parsed, is %v, %v", a, got, e)
		}
	}
	for _, a := range lists() {
		again(a)
	}
	for n := range 110 {
		again(mixed(n, uint32(n)))
	}
	for _, n := range aboutPowers() {
		again(words(n))
	}
}

func TestWhatIsParsedIsPrintedAsTheTextAgain(t *testing.T) {
	digits := strings.Repeat("1000000000020003000004", 50)
	for n := 1; n <= MaxDigits; n++ {
		for _, s := range []string{digits[:n], strings.Repeat("9", n), "8" + strings.Repeat("0", n-1)} {
			if a, e := Parse(s); e != api.OK || Print(a) != s || Digits(a) != n {
				t.Errorf("%q, parsed and printed, is %q, %v", s, Print(a), e)
			}
		}
	}
	if a, e := Parse("0"); e != api.OK || len(a) != 0 || Print(a) != "0" {
		t.Errorf("0, parsed and printed, is %q, %v", Print(a), e)
	}
}

// R5

// spoil writes over all the memory that an answer has, also what lies behind its end.
func spoil(a []uint32) {
	a = a[:cap(a)]
	for i := range a {
		a[i] = 0xdead
	}
}

func TestWhatIsHandedInStaysAsItWas(t *testing.T) {
	for _, a := range lists() {
		room := append(slices.Clone(a), 7, 8)
		was := slices.Clone(room)
		Print(room[:len(a)])
		Digits(room[:len(a)])
		if !slices.Equal(room, was) {
			t.Errorf("%v became %v", was, room)
		}
	}
}

func TestWhatIsParsedIsMemoryOfItsOwn(t *testing.T) {
	for _, s := range []string{"0", "1", "7", "10", "4294967295", "4294967296", strings.Repeat("9", MaxDigits)} {
		first, _ := Parse(s)
		second, _ := Parse(s)
		was := slices.Clone(second)
		spoil(first)
		third, _ := Parse(s)
		if !slices.Equal(second, was) || !slices.Equal(third, was) {
			t.Errorf("%q: an answer shares memory", s)
		}
	}
}

func TestALaterChangeOfWhatWasPrintedIsNotSeen(t *testing.T) {
	for _, a := range lists() {
		text, want := Print(a), number(a).String()
		spoil(a)
		if text != want {
			t.Errorf("%q became %q", want, text)
		}
	}
}
