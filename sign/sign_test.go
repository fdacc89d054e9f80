package sign

import (
	"math"
	"slices"
	"strings"
	"testing"
	"unicode/utf8"

	"talweg/api"
)

// bad are ill-formed bytes, each of which is a rune 65533 by itself.
func bad() []string {
	list := []string{
		"\x80", "\xbf", "\x80\xbf\x80", // what only goes on
		"\xc3", "\xe4", "\xe4\xb8", "\xf0", "\xf0\x9f", "\xf0\x9f\x98", // cut off
		"\xc0\x80", "\xc1\xbf", "\xc1\xa1", "\xe0\x80\xa1", "\xe0\x80\x80", "\xe0\x9f\xbf", "\xf0\x80\x80\xa1", "\xf0\x8f\xbf\xbf", // more bytes than it needs
		"\xed\xa0\x80", "\xed\xaf\xbf", "\xed\xb0\x80", "\xed\xbf\xbf", "\xed\xa0\xbd\xed\xb8\x80", // halves of pairs
		"\xf4\x90\x80\x80", "\xf4\xbf\xbf\xbf", "\xf5\x80\x80\x80", "\xf7\xbf\xbf\xbf", "\xf8\x88\x80\x80\x80", "\xfc\x84\x80\x80\x80\x80", // above 1114111
		"\xff\xfe\xfd", "\xc3\xc3\xc3", "\xe4\xf0\xc0\x80\xff",
	}
	for _, b := range []byte{192, 193, 245, 246, 247, 248, 249, 250, 251, 252, 253, 254, 255} {
		list = append(list, string([]byte{b}))
	}
	return list
}

// wide are the first and the last runes of each length, those beside the halves of pairs, and some others.
func wide() []rune {
	return []rune{0, 1, 'a', '\n', '\r', 126, 127, 128, 233, 2046, 2047, 2048, 0x4e2d, 55295, 57344, 65532, 65533, 65534, 65535, 65536, 0x1f600, 1114110, 1114111}
}

// texts are of all of these: alone, about each other, with lines.
func texts() []string {
	list := []string{
		"", "a", "ab", "in x; let a = x * x; out a;", "x1*2|3", "\n", "\n\n", "a\n", "a\n\nb", "\na", "a\nbc", "a\r\nb\r\n", "\r\n\r\n", "\n\r", "a\rb", "\tx \n y",
		"\ufffd", "a\ufffdb\n", "\u00e9t\u00e9", "\u4e2d\u6587\nx\u4e2d", "\U0001f600\n\U0001f600x", "\u0085\u2028\u2029x", "a\vb\fc", "\ufeffx",
	}
	for _, r := range wide() {
		list = append(list, string(r), "a"+string(r)+"b", string(r)+"\n"+string(r)+string(r)+"\n")
	}
	for _, s := range bad() {
		list = append(list, s, "a"+s, s+"a", s+"\n", "\n"+s, s+"\nb", "\u00e9"+s+"\u4e2d", s+"\U0001f600", s+"\ufffd"+s+"\n"+s+"x")
	}
	return list
}

// ats are all bytes of a text, and what is about its ends.
func ats(s string) []int {
	list := []int{math.MinInt, math.MinInt + 1, -1 << 32, -2, -1}
	for at := range len(s) + 3 {
		list = append(list, at)
	}
	return append(list, len(s)+1000, 1<<31, 1<<32, math.MaxInt-1, math.MaxInt)
}

// P9.1

func TestTheKindsHaveTheirNumbers(t *testing.T) {
	if Other != 0 || Letter != 1 || Digit != 2 || Blank != 3 || Mark != 4 || MaxName != 40 {
		t.Error(Other, Letter, Digit, Blank, Mark, MaxName)
	}
}

// kindOf is a rune's kind, by lists of all runes below 128.
func kindOf(r int) int {
	if r < 0 || r > 1114111 || r == 65533 {
		return Other
	}
	if r >= 128 {
		return Letter
	}
	for kind, list := range map[int]string{
		Letter: "abcdefghijklmnopqrstuvwxyzABCDEFGHIJKLMNOPQRSTUVWXYZ_",
		Digit:  "0123456789",
		Blank:  "\x09\x0a\x0d\x20",
		Mark:   "+-*/^()=;,",
	} {
		if strings.IndexByte(list, byte(r)) >= 0 {
			return kind
		}
	}
	return Other
}

func TestKindOfEveryRuneBelow128(t *testing.T) {
	for r := range 128 {
		if got := Kind(rune(r)); got != kindOf(r) {
			t.Errorf("Kind(%d) = %d, not %d", r, got, kindOf(r))
		}
	}
}

func TestHowManyRunesBelow128AreOfEachKind(t *testing.T) {
	var count [5]int
	for r := range rune(128) {
		count[Kind(r)]++
	}
	if count != [5]int{128 - 53 - 10 - 4 - 10, 53, 10, 4, 10} {
		t.Error(count)
	}
}

func TestKindOfEveryRuneFrom128On(t *testing.T) {
	for r := rune(128); r <= 1114111; r++ {
		if got, want := Kind(r), kindOf(int(r)); got != want {
			t.Errorf("Kind(%d) = %d, not %d", r, got, want)
		}
	}
}

func TestKindAtTheEdges(t *testing.T) {
	for _, x := range []struct {
		r    rune
		want int
	}{
		{127, Other}, {128, Letter}, {65532, Letter}, {65533, Other}, {65534, Letter}, {65535, Letter}, {65536, Letter},
		{55295, Letter}, {55296, Letter}, {56319, Letter}, {56320, Letter}, {57343, Letter}, {57344, Letter},
		{1114110, Letter}, {1114111, Letter}, {1114112, Other}, {1114113, Other}, {math.MaxInt32 - 1, Other}, {math.MaxInt32, Other},
		{-1, Other}, {-2, Other}, {-'a', Other}, {-128, Other}, {-65533, Other}, {math.MinInt32 + 1, Other}, {math.MinInt32, Other},
		{'|', Other}, {'.', Other}, {'#', Other}, {'"', Other}, {'\'', Other}, {'`', Other}, {'@', Other}, {'[', Other}, {'{', Other}, {':', Other}, {'<', Other}, {'%', Other}, {11, Other}, {12, Other}, {0, Other},
		{133, Letter}, {160, Letter}, {0x2028, Letter}, {0x3000, Letter}, {0x663, Letter}, {0xff11, Letter}, {0xff0b, Letter}, {0xfeff, Letter},
	} {
		if got := Kind(x.r); got != x.want {
			t.Errorf("Kind(%d) = %d, not %d", x.r, got, x.want)
		}
	}
}

func TestKindOfANumberThatIsNoRune(t *testing.T) {
	// One that is cut down to fewer bits might pass for a letter, a digit, a blank or a mark.
	for low := range rune(128) {
		for _, high := range []rune{1 << 21, 1 << 24, 1 << 30, math.MinInt32, -128, -256, -65536} {
			if got := Kind(high + low); got != Other {
				t.Errorf("Kind(%d) = %d", high+low, got)
			}
		}
	}
}

func TestNext(t *testing.T) {
	for _, x := range []struct {
		s    string
		at   int
		r    rune
		size int
	}{
		{"", 0, 0, 0}, {"", -1, 0, 0}, {"", 1, 0, 0}, {"", math.MinInt, 0, 0}, {"", math.MaxInt, 0, 0},
		{"a", 0, 'a', 1}, {"a", 1, 0, 0}, {"a", -1, 0, 0}, {"a", 2, 0, 0}, {"ab", 1, 'b', 1}, {"ab", 2, 0, 0}, {"ab", math.MinInt, 0, 0}, {"ab", math.MaxInt, 0, 0},
		{"\x00", 0, 0, 1}, {"\x00", 1, 0, 0}, {"\n", 0, 10, 1}, {"\r\n", 0, 13, 1}, {"\r\n", 1, 10, 1}, {"\x7f", 0, 127, 1},
		{"\u0080", 0, 128, 2}, {"\u07ff", 0, 2047, 2}, {"\u00e9", 1, 65533, 1}, {"\u00e9x", 1, 65533, 1}, {"\u00e9x", 2, 'x', 1},
		{"\u0800", 0, 2048, 3}, {"\uffff", 0, 65535, 3}, {"\u4e2dx", 0, 0x4e2d, 3}, {"\u4e2dx", 1, 65533, 1}, {"\u4e2dx", 2, 65533, 1}, {"\u4e2dx", 3, 'x', 1}, {"\u4e2dx", 4, 0, 0},
		{"\U00010000", 0, 65536, 4}, {"\U0010ffff", 0, 1114111, 4}, {"\U0001f600", 1, 65533, 1}, {"\U0001f600", 2, 65533, 1}, {"\U0001f600", 3, 65533, 1}, {"\U0001f600", 4, 0, 0},
		{"\ufffd", 0, 65533, 3}, {"\ufffda", 0, 65533, 3}, {"\ufffd\ufffd", 3, 65533, 3}, {"\ufffd", 1, 65533, 1}, {"\xff\ufffd", 0, 65533, 1}, {"\xff\ufffd", 1, 65533, 3},
		{"\xe4\xb8", 0, 65533, 1}, {"\xe4\xb8a", 0, 65533, 1}, {"\xe4\xb8a", 1, 65533, 1}, {"\xe4\xb8a", 2, 'a', 1}, {"\xe4\u00e9", 0, 65533, 1}, {"\xe4\u00e9", 1, 233, 2},
		{"\ud7ff", 0, 55295, 3}, {"\ue000", 0, 57344, 3},
	} {
		if r, size := Next(x.s, x.at); r != x.r || size != x.size {
			t.Errorf("Next(%q, %d) = %d, %d, not %d, %d", x.s, x.at, r, size, x.r, x.size)
		}
	}
}

func TestNextOfIllFormedBytes(t *testing.T) {
	for _, s := range bad() {
		for at := range len(s) {
			for _, ahead := range []string{"", "x", "\u00e9", "\xff"} {
				for _, more := range []string{"", "x", "\n", "\u4e2d"} {
					if r, size := Next(ahead+s+more, len(ahead)+at); r != 65533 || size != 1 {
						t.Errorf("Next(%q, %d) = %d, %d", ahead+s+more, len(ahead)+at, r, size)
					}
				}
			}
		}
	}
}

func TestNextOfEveryRune(t *testing.T) {
	for r := range rune(1114112) {
		if r >= 55296 && r <= 57343 {
			continue // no text has one
		}
		s := string(r)
		if got, size := Next(s+"x", 0); got != r || size != len(s) {
			t.Fatalf("Next of %d: %d, %d", r, got, size)
		}
		if got, size := Next(s, 0); got != r || size != len(s) {
			t.Fatalf("Next of %d alone: %d, %d", r, got, size)
		}
	}
}

func TestNextAtEveryByte(t *testing.T) {
	for _, s := range texts() {
		for _, at := range ats(s) {
			var want rune
			var long int
			if at >= 0 && at < len(s) {
				want, long = utf8.DecodeRuneInString(s[at:])
			}
			if r, size := Next(s, at); r != want || size != long {
				t.Errorf("Next(%q, %d) = %d, %d, not %d, %d", s, at, r, size, want, long)
			}
		}
	}
}

func TestNextOfEveryTwoBytesAndAThirdOne(t *testing.T) {
	for a := range 256 {
		for b := range 256 {
			for _, c := range []byte{'a', 0x80, 0x9f, 0xa0, 0xbf, 0xc3} {
				s := string([]byte{byte(a), byte(b), c, 0x80})
				want, long := utf8.DecodeRuneInString(s)
				if r, size := Next(s, 0); r != want || size != long {
					t.Fatalf("Next(%q, 0) = %d, %d, not %d, %d", s, r, size, want, long)
				}
			}
		}
	}
}

// P9.2

func TestPlace(t *testing.T) {
	for _, x := range []struct {
		s             string
		at, line, col int
	}{
		{"", 0, 1, 1}, {"", 1, 1, 1}, {"", -1, 1, 1}, {"", math.MinInt, 1, 1}, {"", math.MaxInt, 1, 1},
		{"a", 0, 1, 1}, {"a", 1, 1, 2}, {"a", 2, 1, 2}, {"a", -1, 1, 1}, {"abc", math.MinInt, 1, 1}, {"abc", math.MaxInt, 1, 4}, {"abc", 2, 1, 3}, {"abc", 3, 1, 4},
		{"a\nbc", 0, 1, 1}, {"a\nbc", 1, 1, 2}, {"a\nbc", 2, 2, 1}, {"a\nbc", 3, 2, 2}, {"a\nbc", 4, 2, 3}, {"a\nbc", 5, 2, 3},
		{"\n", 0, 1, 1}, {"\n", 1, 2, 1}, {"\n", 7, 2, 1}, {"\n", -7, 1, 1}, {"\n\n", 1, 2, 1}, {"\n\n", 2, 3, 1}, {"a\n\nb", 2, 2, 1}, {"a\n\nb", 3, 3, 1}, {"\na", 1, 2, 1},
		{"a\r\nb", 1, 1, 2}, {"a\r\nb", 2, 1, 3}, {"a\r\nb", 3, 2, 1}, {"a\rb", 2, 1, 3}, {"\n\r", 1, 2, 1}, {"\n\r", 2, 2, 2}, {"a\tb", 2, 1, 3}, {"a\vb\fc", 4, 1, 5}, {"\u0085\u2028x", 5, 1, 3},
		{"\u00e9x", 0, 1, 1}, {"\u00e9x", 1, 1, 1}, {"\u00e9x", 2, 1, 2}, {"\u00e9x", 3, 1, 3}, {"\u4e2dx", 2, 1, 1}, {"\u4e2dx", 3, 1, 2}, {"x\U0001f600y", 1, 1, 2}, {"x\U0001f600y", 4, 1, 2}, {"x\U0001f600y", 5, 1, 3}, {"x\U0001f600", 5, 1, 3},
		{"\xff\nx", 0, 1, 1}, {"\xff\nx", 1, 1, 2}, {"\xff\nx", 2, 2, 1}, {"\xe4\xb8\nx", 1, 1, 2}, {"\xe4\xb8\nx", 2, 1, 3}, {"\xe4\xb8\nx", 3, 2, 1}, {"\xed\xa0\x80x", 2, 1, 3}, {"\xed\xa0\x80x", 3, 1, 4}, {"\xff\xff", 2, 1, 3},
		{"\ufffdx", 2, 1, 1}, {"\ufffdx", 3, 1, 2},
		{"in x; let a = (x; out a;", 16, 1, 17},
	} {
		if got := Place(x.s, x.at); got != (api.Place{Line: x.line, Col: x.col}) {
			t.Errorf("Place(%q, %d) = %v, not %d:%d", x.s, x.at, got, x.line, x.col)
		}
	}
}

// placeOf is a byte's place, by what stands ahead of the rune that has it.
func placeOf(s string, at int) api.Place {
	first := 0
	for first < len(s) {
		_, size := utf8.DecodeRuneInString(s[first:])
		if at < first+size {
			break
		}
		first += size
	}
	ahead := s[:first]
	return api.Place{Line: 1 + strings.Count(ahead, "\n"), Col: 1 + utf8.RuneCountInString(ahead[strings.LastIndexByte(ahead, '\n')+1:])}
}

func TestPlaceOfEveryByte(t *testing.T) {
	all := texts()
	all = append(all, strings.Join(all, "\n"), strings.Join(all, ""))
	for _, s := range all {
		for _, at := range ats(s) {
			if got, want := Place(s, at), placeOf(s, at); got != want {
				t.Errorf("Place(%q, %d) = %v, not %v", s, at, got, want)
			}
		}
	}
}

func TestAllBytesOfARuneHaveOnePlace(t *testing.T) {
	for _, r := range wide() {
		s := "x\ny" + string(r) + "z"
		for at := 3; at < 3+utf8.RuneLen(r); at++ {
			if got := Place(s, at); got != (api.Place{Line: 2, Col: 2}) {
				t.Errorf("Place(%q, %d) = %v", s, at, got)
			}
		}
	}
}

func TestPlaceInALongText(t *testing.T) {
	s := strings.Repeat(strings.Repeat("x", 99)+"\n", 1000)
	for _, at := range []int{0, 99, 100, 50050, 99999, 100000, 100001} {
		first := min(at, 100000)
		if got := Place(s, at); got != (api.Place{Line: 1 + first/100, Col: 1 + first%100}) {
			t.Errorf("Place(.., %d) = %v", at, got)
		}
	}
}

// P9.3

func TestKey(t *testing.T) {
	for _, s := range []string{"in", "let", "out"} {
		if !Key(s) {
			t.Errorf("Key(%q) is false", s)
		}
	}
	for _, s := range []string{
		"", "i", "n", "l", "le", "et", "lt", "o", "ou", "ut", "ot", "ins", "iin", "inn", "lets", "lett", "llet", "outs", "outt", "oout", "inlet", "inout", "letin", "in1", "in_", "_in",
		"In", "IN", "iN", "Let", "LET", "leT", "Out", "OUT", "ouT", " in", "in ", "in\n", "\tlet", "out;", "out\x00", "in\xff", "\u0131n", "\uff49\uff4e", "x", "tel", "tuo", "ni",
	} {
		if Key(s) {
			t.Errorf("Key(%q) is true", s)
		}
	}
}

// named looks whether a text is a name, or none.
func named(t *testing.T, s string, want bool) {
	t.Helper()
	if got := Name(s); got != want {
		t.Errorf("Name(%q) = %t", s, got)
	}
}

func TestName(t *testing.T) {
	for _, s := range []string{
		"x", "X", "_", "__", "_1", "x1", "x1y2", "a0", "z9", "Z_9", "\u00e9t\u00e9", "\u4e2d", "\U0001f600", "\u4e2d1", "x\u00e9", "\u0080", "\uffff", "\U0010ffff", "\u0663", "\u00a0", "\u3000",
		"i", "l", "le", "o", "ou", "n", "ins", "inn", "lets", "outs", "in1", "let_", "_out", "In", "IN", "Let", "LET", "Out", "OUT", "inout",
	} {
		named(t, s, true)
	}
	for _, s := range []string{
		"", "in", "let", "out", "1", "1x", "0", "9a", "12", " ", " x", "x ", "a b", "x\t", "x\n", "\nx", "x\r", "+", "+x", "x+", "a-b", "a*b", "a,b", "a;", "(a)", "a=b", "a^2", "a/b",
		"|", "a|b", "#", "a#", "a.b", "a'", "\x00", "x\x00", "\x7f", "x\x7f", "x\v", "\xff", "\xffx", "x\xff", "x\xffy", "\xe4\xb8", "x\xe4\xb8", "x\xed\xa0\x80", "\ufffd", "x\ufffd", "\ufffdx", "x\ufffdy",
	} {
		named(t, s, false)
	}
}

func TestNameOfEveryRuneAheadAndFurtherOn(t *testing.T) {
	for r := range rune(1114112) {
		if r >= 55296 && r <= 57343 {
			continue // no text has one
		}
		s, kind := string(r), kindOf(int(r))
		named(t, s, kind == Letter)
		named(t, s+"x", kind == Letter)
		named(t, "x"+s, kind == Letter || kind == Digit)
		named(t, "x"+s+"1", kind == Letter || kind == Digit)
	}
}

func TestNameOfIllFormedBytesAnywhere(t *testing.T) {
	for _, s := range bad() {
		named(t, s, false)
		named(t, s+"x", false)
		named(t, "x"+s, false)
		named(t, "x"+s+"y", false)
		named(t, "\u00e9"+s+"\u00e9", false)
	}
}

func TestNamesOfAsManyBytesAsMayBeAndOfOneMore(t *testing.T) {
	for n := range 3 * MaxName {
		may := n >= 1 && n <= MaxName
		named(t, strings.Repeat("x", n), may)
		named(t, strings.Repeat("_", n), may)
		if n > 1 {
			named(t, "x"+strings.Repeat("7", n-1), may)
		}
	}
	for _, wide := range []string{"\u00e9", "\u4e2d", "\U0001f600"} {
		for n := 1; n <= MaxName+1; n++ {
			s := strings.Repeat(wide, n)
			named(t, s, len(s) <= MaxName)
		}
		fits := strings.Repeat("x", MaxName-len(wide))
		named(t, fits+wide, true)
		named(t, wide+fits, true)
		named(t, fits+"x"+wide, false)
		named(t, wide+fits+"x", false)
		named(t, fits[1:]+wide, true)
	}
	named(t, strings.Repeat("x", MaxName-1)+"+", false)
	named(t, strings.Repeat("x", MaxName-1)+"\xff", false)
	named(t, strings.Repeat("x", 100000), false)
	named(t, strings.Repeat("in", MaxName/2), true)
}

func TestNoKeyIsAName(t *testing.T) {
	for _, s := range append(texts(), "in", "let", "out", "ins") {
		if Key(s) && Name(s) {
			t.Errorf("%q is both", s)
		}
	}
}

// P9.4

func TestRuneByRuneAllBytesAreToldOnce(t *testing.T) {
	all := texts()
	all = append(all, strings.Join(all, ""))
	for _, s := range all {
		var told []rune
		at := 0
		for at < len(s) {
			r, size := Next(s, at)
			if size < 1 || size > len(s)-at {
				t.Fatalf("Next(%q, %d): %d bytes", s, at, size)
			}
			told = append(told, r)
			at += size
		}
		if at != len(s) || !slices.Equal(told, []rune(s)) {
			t.Errorf("%q: %d bytes, %v", s, at, told)
		}
		if r, size := Next(s, at); r != 0 || size != 0 {
			t.Errorf("%q: %d, %d behind all", s, r, size)
		}
	}
}

func TestPlacesGoOnRuneByRune(t *testing.T) {
	for _, s := range texts() {
		want := api.Place{Line: 1, Col: 1}
		for at := 0; at < len(s); {
			r, size := Next(s, at)
			if got := Place(s, at); got != want {
				t.Errorf("Place(%q, %d) = %v, not %v", s, at, got, want)
			}
			want.Col++
			if r == 10 {
				want = api.Place{Line: want.Line + 1, Col: 1}
			}
			at += size
		}
		if got := Place(s, len(s)); got != want {
			t.Errorf("behind all of %q: %v, not %v", s, got, want)
		}
	}
}

// R5, R6

func TestWhatIsHandedInStaysAsItWas(t *testing.T) {
	type answer struct {
		r         rune
		size      int
		at        api.Place
		key, name bool
	}
	ask := func(s string, at int) answer {
		r, size := Next(s, at)
		return answer{r, size, Place(s, at), Key(s), Name(s)}
	}
	for _, s := range texts() {
		whole := "let" + s + "out"
		was := strings.Clone(whole)
		part := whole[3 : 3+len(s)]
		for _, at := range ats(s) {
			if first, second, own := ask(part, at), ask(part, at), ask(strings.Clone(s), at); first != second || first != own {
				t.Errorf("%q at %d: %v, %v, %v", s, at, first, second, own)
			}
		}
		if whole != was {
			t.Errorf("%q became %q", was, whole)
		}
	}
}
