package lex

import (
	"regexp"
	"slices"
	"strings"
	"testing"
	"unicode/utf8"

	"talweg/api"
	"talweg/sign"
)

var (
	blanks  = regexp.MustCompile(`^[\x09\x0a\x0d\x20]+`)
	words   = regexp.MustCompile(`^[a-zA-Z_\x{80}-\x{fffc}\x{fffe}-\x{10ffff}][a-zA-Z_0-9\x{80}-\x{fffc}\x{fffe}-\x{10ffff}]*`)
	numbers = regexp.MustCompile(`^([0-9]+)(?:\|([0-9]+))?`)
	marks   = regexp.MustCompile(`^[-+*/^()=;,]`)
	good    = regexp.MustCompile(`^(0|[1-9][0-9]{0,39})(\|[1-9][0-9]{0,39})?\z`)
)

// answer is what Lex tells.
type answer struct {
	list []api.Token
	at   api.Place
	e    api.Errno
}

// places are those of all bytes that begin a rune, and of what would be behind all.
func places(s string) []api.Place {
	list := make([]api.Place, len(s)+1)
	line, col := 1, 1
	for at, size := 0, 0; at < len(s); at += size {
		list[at] = api.Place{Line: line, Col: col}
		_, size = utf8.DecodeRuneInString(s[at:])
		col++
		if s[at] == 10 {
			line, col = line+1, 1
		}
	}
	list[len(s)] = api.Place{Line: line, Col: col}
	return list
}

// piece is the token that a text begins with, and its error; without one, none.
func piece(s string) (kind int, text string, e api.Errno) {
	if w := words.FindString(s); w != "" {
		if len(w) > 40 {
			return 0, w, api.ErrLong
		}
		return 0, w, api.OK
	}
	if n := numbers.FindStringSubmatch(s); n != nil {
		switch {
		case len(n[1]) > 40 || len(n[2]) > 40:
			return 1, n[0], api.ErrLong
		case !good.MatchString(n[0]):
			return 1, n[0], api.ErrSyntax
		}
		return 1, n[0], api.OK
	}
	if m := marks.FindString(s); m != "" {
		return 2, m, api.OK
	}
	return 0, "", api.ErrSyntax
}

// lexed is what Lex must tell, by patterns.
func lexed(s string) answer {
	if len(s) > 60000 {
		return answer{nil, api.Place{Line: 1, Col: 1}, api.ErrLong}
	}
	var list []api.Token
	place := places(s)
	for at := len(blanks.FindString(s)); at < len(s); at += len(blanks.FindString(s[at:])) {
		if len(list) == 4000 {
			return answer{nil, place[at], api.ErrLong}
		}
		kind, text, e := piece(s[at:])
		if e != api.OK {
			return answer{nil, place[at], e}
		}
		list = append(list, api.Token{Kind: kind, Text: text, At: place[at]})
		at += len(text)
	}
	return answer{list, api.Place{}, api.OK}
}

// short is a text as it is told where a test fails.
func short(s string) string { return s[:min(len(s), 100)] }

// hold looks whether Lex tells an answer.
func hold(t *testing.T, s string, want answer) {
	t.Helper()
	list, at, e := Lex(s)
	if e != want.e || at != want.at {
		t.Errorf("%q (%d bytes): %v at %v, not %v at %v", short(s), len(s), e, at, want.e, want.at)
	}
	if len(list) != len(want.list) {
		t.Errorf("%q (%d bytes): %d tokens, not %d", short(s), len(s), len(list), len(want.list))
		return
	}
	for i := range list {
		if list[i] != want.list[i] {
			t.Errorf("%q (%d bytes): token %d is %v, not %v", short(s), len(s), i, list[i], want.list[i])
			return
		}
	}
}

// fails looks whether Lex tells an error at a place, and no tokens.
func fails(t *testing.T, s string, e api.Errno, line, col int) {
	t.Helper()
	hold(t, s, answer{nil, api.Place{Line: line, Col: col}, e})
	if want := lexed(s); want.e != e || want.at != (api.Place{Line: line, Col: col}) {
		t.Errorf("%q: the patterns tell %v at %v", short(s), want.e, want.at)
	}
}

// tells looks whether Lex tells tokens of these texts, kinds by their first bytes.
func tells(t *testing.T, s string, texts ...string) {
	t.Helper()
	list, at, e := Lex(s)
	if e != api.OK || at != (api.Place{}) {
		t.Errorf("%q (%d bytes): %v at %v", short(s), len(s), e, at)
	}
	var got []string
	for _, x := range list {
		got = append(got, x.Text)
		if x.Kind != kindOf(x.Text) {
			t.Errorf("%q: %q is of the kind %d", short(s), x.Text, x.Kind)
		}
	}
	if !slices.Equal(got, texts) {
		t.Errorf("%q: %q, not %q", short(s), got, texts)
	}
	hold(t, s, lexed(s))
}

// kindOf is a token's, by its first byte.
func kindOf(s string) int {
	switch {
	case s[0] >= '0' && s[0] <= '9':
		return 1
	case strings.IndexByte("+-*/^()=;,", s[0]) >= 0:
		return 2
	}
	return 0
}

// digits are as many as are asked for, the first one not 0.
func digits(n int) string { return strings.Repeat("1234567890", n/10+1)[:n] }

// word is one of as many bytes as are asked for.
func word(n int) string { return strings.Repeat("x", n) }

// P10.1: tokens

func TestTheLimitsAndKindsHaveTheirNumbers(t *testing.T) {
	if MaxSource != 60000 || MaxTokens != 4000 || MaxNumber != 40 || sign.MaxName != 40 {
		t.Error(MaxSource, MaxTokens, MaxNumber, sign.MaxName)
	}
	if api.Word != 0 || api.Number != 1 || api.Mark != 2 || api.ErrLong != 4 || api.ErrSyntax != 5 {
		t.Error(api.Word, api.Number, api.Mark, api.ErrLong, api.ErrSyntax)
	}
}

func TestTokensWithTheirKindsAndPlaces(t *testing.T) {
	at := func(line, col int) api.Place { return api.Place{Line: line, Col: col} }
	hold(t, "x1*2|3", answer{list: []api.Token{{Kind: 0, Text: "x1", At: at(1, 1)}, {Kind: 2, Text: "*", At: at(1, 3)}, {Kind: 1, Text: "2|3", At: at(1, 4)}}})
	hold(t, "in x;\nlet a = 12^-3;\r\n\tout a ;\n", answer{list: []api.Token{
		{Kind: 0, Text: "in", At: at(1, 1)}, {Kind: 0, Text: "x", At: at(1, 4)}, {Kind: 2, Text: ";", At: at(1, 5)},
		{Kind: 0, Text: "let", At: at(2, 1)}, {Kind: 0, Text: "a", At: at(2, 5)}, {Kind: 2, Text: "=", At: at(2, 7)}, {Kind: 1, Text: "12", At: at(2, 9)},
		{Kind: 2, Text: "^", At: at(2, 11)}, {Kind: 2, Text: "-", At: at(2, 12)}, {Kind: 1, Text: "3", At: at(2, 13)}, {Kind: 2, Text: ";", At: at(2, 14)},
		{Kind: 0, Text: "out", At: at(3, 2)}, {Kind: 0, Text: "a", At: at(3, 6)}, {Kind: 2, Text: ";", At: at(3, 8)},
	}})
	hold(t, "\u00e9 \u4e2d1,\U0001f600\n\n 7", answer{list: []api.Token{
		{Kind: 0, Text: "\u00e9", At: at(1, 1)}, {Kind: 0, Text: "\u4e2d1", At: at(1, 3)}, {Kind: 2, Text: ",", At: at(1, 5)}, {Kind: 0, Text: "\U0001f600", At: at(1, 6)}, {Kind: 1, Text: "7", At: at(3, 2)},
	}})
}

func TestOrdinaryTexts(t *testing.T) {
	tells(t, "in x; let a = x * x; out a;", "in", "x", ";", "let", "a", "=", "x", "*", "x", ";", "out", "a", ";")
	tells(t, "in x,y;let a=(x+y)^2/3|4;out a,x;", "in", "x", ",", "y", ";", "let", "a", "=", "(", "x", "+", "y", ")", "^", "2", "/", "3|4", ";", "out", "a", ",", "x", ";")
	tells(t, "x", "x")
	tells(t, "0", "0")
	tells(t, "10|7", "10|7")
	tells(t, "1-2", "1", "-", "2")
	tells(t, "-2|3", "-", "2|3")
	tells(t, "1 2", "1", "2")
	tells(t, "a b", "a", "b")
	tells(t, "out = in", "out", "=", "in")
}

func TestNoTokens(t *testing.T) {
	for _, s := range []string{"", " ", "\t", "\n", "\r", "  ", "\r\n", "\n\n\n", " \t\r\n \n\r\t ", strings.Repeat("\n ", 1000)} {
		tells(t, s)
	}
}

func TestEachMark(t *testing.T) {
	for _, m := range strings.Split("+-*/^()=;,", "") {
		tells(t, m, m)
		tells(t, m+m, m, m)
		tells(t, " "+m+"\n", m)
		tells(t, "a"+m+"1", "a", m, "1")
		tells(t, "1"+m+"a", "1", m, "a")
		tells(t, "1|2"+m+"3|4", "1|2", m, "3|4")
		for _, other := range strings.Split("+-*/^()=;,", "") {
			tells(t, m+other, m, other)
		}
	}
	tells(t, "+-*/^()=;,", "+", "-", "*", "/", "^", "(", ")", "=", ";", ",")
}

func TestEveryRuneAlone(t *testing.T) {
	for r := range rune(1114112) {
		if r >= 55296 && r <= 57343 {
			continue // no text has one
		}
		s := string(r)
		list, at, e := Lex(s)
		want := lexed(s)
		if e != want.e || at != want.at || !slices.Equal(list, want.list) {
			t.Fatalf("%d: %v, %v, %v", r, list, at, e)
		}
	}
}

func TestWords(t *testing.T) {
	for _, s := range []string{
		"a", "z", "A", "Z", "_", "__", "_1", "x1", "x1y2", "a0", "Z_9", "x00", "\u00e9", "\u00e9t\u00e9", "\u4e2d\u6587", "\u4e2d1", "x\u00e9", "\U0001f600", "\u0080", "\ufffc", "\ufffe", "\uffff", "\U0010ffff", "\u0663", "\u00a0", "\u3000", "\u0085", "\u2028", "\ufeff", "\u0661\u0662",
		"in", "let", "out", "i", "inn", "ins", "lets", "In", "OUT", "inlet", "in1", "_let",
	} {
		tells(t, s, s)
		tells(t, " "+s+" ", s)
		tells(t, s+";"+s, s, ";", s)
		tells(t, s+" "+s, s, s)
		tells(t, "7"+s, "7", s)
		tells(t, s+"7", s+"7")
	}
}

func TestWordsAndNumbersWithoutBlanks(t *testing.T) {
	tells(t, "3x", "3", "x")
	tells(t, "0x", "0", "x")
	tells(t, "0x10", "0", "x10")
	tells(t, "1e5", "1", "e5")
	tells(t, "2|3x", "2|3", "x")
	tells(t, "2|3in", "2|3", "in")
	tells(t, "12\u00e9", "12", "\u00e9")
	tells(t, "1_000", "1", "_000")
	tells(t, "x3", "x3")
	tells(t, "x01", "x01")
	tells(t, "x3y4z", "x3y4z")
	tells(t, "in3", "in3")
	tells(t, "3x4y", "3", "x4y")
	tells(t, "\u00e912", "\u00e912")
	fails(t, "x2|3", api.ErrSyntax, 1, 3)
	fails(t, "2|3x4|5", api.ErrSyntax, 1, 6)
	fails(t, "3|x", api.ErrSyntax, 1, 2)
	fails(t, "x|y", api.ErrSyntax, 1, 2)
}

func TestWordsOfAsManyBytesAsMayBeAndOfOneMore(t *testing.T) {
	tells(t, word(40), word(40))
	fails(t, word(41), api.ErrLong, 1, 1)
	fails(t, word(42), api.ErrLong, 1, 1)
	fails(t, word(1000), api.ErrLong, 1, 1)
	fails(t, "\n "+word(41)+" x", api.ErrLong, 2, 2)
	fails(t, "2"+word(41), api.ErrLong, 1, 2)
	tells(t, "2"+word(40), "2", word(40))
	tells(t, word(40)+" "+word(40), word(40), word(40))
	tells(t, "a"+digits(39), "a"+digits(39))
	fails(t, "a"+digits(40), api.ErrLong, 1, 1)
	fails(t, word(41)+"\xff", api.ErrLong, 1, 1)
	fails(t, word(40)+"\xff", api.ErrSyntax, 1, 41)
	for _, wide := range []string{"\u00e9", "\u4e2d", "\U0001f600"} {
		fits := word(40 - len(wide))
		tells(t, fits+wide, fits+wide)
		tells(t, wide+fits, wide+fits)
		fails(t, fits+"x"+wide, api.ErrLong, 1, 1)
		fails(t, fits+wide+"x", api.ErrLong, 1, 1)
		fails(t, word(39)+wide, api.ErrLong, 1, 1)
		fails(t, word(40)+wide, api.ErrLong, 1, 1)
		fails(t, ";;"+strings.Repeat(wide, 40), api.ErrLong, 1, 3)
		for n := 1; n <= 41; n++ {
			if s := strings.Repeat(wide, n); len(s) <= 40 {
				tells(t, s, s)
			} else {
				fails(t, s, api.ErrLong, 1, 1)
			}
		}
	}
}

func TestNumbers(t *testing.T) {
	for _, s := range []string{"0", "1", "9", "10", "100", "1000000000", "4294967296", "1|1", "2|3", "4|6", "0|1", "0|7", "0|10", "7|1", "10|20", "1|9", "100|200"} {
		tells(t, s, s)
		tells(t, " "+s+"\n", s)
		tells(t, s+" "+s, s, s)
		tells(t, s+"+"+s, s, "+", s)
		tells(t, "-"+s, "-", s)
	}
}

func TestNumbersThatMayNotBe(t *testing.T) {
	for _, s := range []string{"00", "01", "000", "007", "0123456789", "1|0", "0|0", "1|00", "1|01", "1|007", "10|0", "00|1", "01|2", "00|00", "01|02", "0|01", "0|00", "00|0"} {
		fails(t, s, api.ErrSyntax, 1, 1)
		fails(t, s+";", api.ErrSyntax, 1, 1)
		fails(t, "x = "+s, api.ErrSyntax, 1, 5)
		fails(t, "1 "+s+" 1", api.ErrSyntax, 1, 3)
		fails(t, s+"|", api.ErrSyntax, 1, 1)
		fails(t, s+"x", api.ErrSyntax, 1, 1)
	}
}

func TestStrokes(t *testing.T) {
	for _, x := range []struct {
		s   string
		col int
	}{
		{"|", 1}, {"||", 1}, {"|1", 1}, {"|1|2", 1}, {"|x", 1}, {"| 1", 1}, {"1|", 2}, {"0|", 2}, {"12|", 3}, {"1||", 2}, {"1||2", 2}, {"1|x", 2}, {"1|-2", 2}, {"1| 2", 2}, {"1 |2", 3}, {"1 | 2", 3}, {"1|\n2", 2}, {"1|\u0662", 2}, {"1|\xff2", 2}, {"1|+", 2}, {"1|;", 2}, {"1|(2)", 2},
		{"1|2|", 4}, {"1|2|3", 4}, {"1|2||3", 4}, {"1|2|3|4", 4}, {"10|20|30", 6}, {"1|2 |3", 5}, {"1|2 3|", 6}, {"0|1|0", 4}, {"1|2|0", 4}, {"x|", 2}, {"x|1", 2}, {"+|", 2}, {")|2", 2}, {"00 1|", 1}, {"00|", 1}, {"01|", 1}, {"00||", 1},
	} {
		fails(t, x.s, api.ErrSyntax, 1, x.col)
	}
	tells(t, "1|2 3", "1|2", "3")
	tells(t, "1|2x", "1|2", "x")
	tells(t, "1|2-3|4", "1|2", "-", "3|4")
}

func TestNumbersOfAsManyDigitsAsMayBeAndOfOneMore(t *testing.T) {
	for _, s := range []string{digits(40), digits(39), digits(40) + "|" + digits(40), "1|" + digits(40), digits(40) + "|1", digits(39) + "|" + digits(40), "0|" + digits(40), strings.Repeat("9", 40), "1" + strings.Repeat("0", 39) + "|1" + strings.Repeat("0", 39)} {
		tells(t, s, s)
		tells(t, s+"x", s, "x")
	}
	nils := strings.Repeat("0", 41)
	for _, s := range []string{
		digits(41), digits(42), digits(1000), digits(41) + "|1", "1|" + digits(41), "1|" + digits(1000), digits(41) + "|" + digits(41), digits(40) + "|" + digits(41), digits(41) + "|" + digits(40), digits(41) + "|0", digits(41) + "|00", digits(41) + "|01", "00|" + digits(41), "01|" + digits(41), "0|" + digits(41),
		nils, "0" + digits(40), nils + "|1", "1|" + nils, "1|0" + digits(40), "00|" + nils, nils + "|0", nils + "|00", digits(41) + "|", digits(41) + "||", nils + "|", digits(41) + "|x", digits(41) + "x", digits(41) + "\xff", digits(41) + "|1|2", "1|" + digits(41) + "|", digits(41) + "|1|",
	} {
		fails(t, s, api.ErrLong, 1, 1)
		fails(t, s+";", api.ErrLong, 1, 1)
		fails(t, "let\n a="+s, api.ErrLong, 2, 4)
	}
	zeros := nils[:40]
	for _, s := range []string{zeros, "0" + digits(39), "1|" + zeros, "1|0" + digits(39), digits(40) + "|0", "00|" + digits(40), zeros + "|" + digits(40), digits(40) + "|" + zeros} {
		fails(t, s, api.ErrSyntax, 1, 1)
	}
	fails(t, digits(40)+"|", api.ErrSyntax, 1, 41)
	fails(t, digits(40)+"|"+digits(40)+"|"+digits(41), api.ErrSyntax, 1, 82)
}

// noTokens are texts whose first rune is none.
func noTokens() []string {
	list := []string{
		"|", ".", "#", "!", "\"", "$", "%", "&", "'", ":", "<", ">", "?", "@", "[", "\\", "]", "`", "{", "}", "~", "\x00", "\x01", "\x08", "\v", "\f", "\x0e", "\x1f", "\x7f", "\ufffd",
		"\x80", "\xbf", "\xc3", "\xe4", "\xe4\xb8", "\xf0\x9f\x98", "\xc0\x80", "\xc1\xa1", "\xe0\x80\xa1", "\xed\xa0\x80", "\xed\xbf\xbf", "\xf4\x90\x80\x80", "\xf5", "\xff", "\xfe\xff",
	}
	return list
}

func TestRunesThatAreNoToken(t *testing.T) {
	for _, s := range noTokens() {
		fails(t, s, api.ErrSyntax, 1, 1)
		fails(t, s+"x", api.ErrSyntax, 1, 1)
		fails(t, " "+s, api.ErrSyntax, 1, 2)
		fails(t, "x"+s, api.ErrSyntax, 1, 2)
		fails(t, "x"+s+"y", api.ErrSyntax, 1, 2)
		fails(t, "x1"+s+"1", api.ErrSyntax, 1, 3)
		fails(t, "\u4e2d"+s+"\u4e2d", api.ErrSyntax, 1, 2)
		fails(t, "\u00e9x \n"+s, api.ErrSyntax, 2, 1)
		fails(t, "in x; let a = x; out a;"+s, api.ErrSyntax, 1, 24)
		fails(t, "in x; let a = x; out a;\n"+s, api.ErrSyntax, 2, 1)
		fails(t, "12"+s, api.ErrSyntax, 1, 3)
		fails(t, "1|2"+s+"3", api.ErrSyntax, 1, 4)
		fails(t, "+"+s, api.ErrSyntax, 1, 2)
		fails(t, word(40)+s, api.ErrSyntax, 1, 41)
		fails(t, word(41)+s, api.ErrLong, 1, 1)
	}
}

func TestPlacesOfErrorsBehindWhatIsWide(t *testing.T) {
	fails(t, "\u4e2d\u6587 |", api.ErrSyntax, 1, 4)
	fails(t, "\u00e9\u00e9\n\u00e9|", api.ErrSyntax, 2, 2)
	fails(t, "\U0001f600+\U0001f600\xff", api.ErrSyntax, 1, 4)
	fails(t, "a\r\n\r\nb \xff", api.ErrSyntax, 3, 3)
	fails(t, "a\r|", api.ErrSyntax, 1, 3)
	fails(t, "\t\t|", api.ErrSyntax, 1, 3)
	fails(t, "\u2028|", api.ErrSyntax, 1, 2)
	fails(t, "\n\n\n"+digits(41), api.ErrLong, 4, 1)
	fails(t, "x\n "+word(41), api.ErrLong, 2, 2)
	fails(t, "\xff\n|", api.ErrSyntax, 1, 1)
	fails(t, "\u4e2d\xe4\xb8", api.ErrSyntax, 1, 2)
}

func TestPlacesOfTokens(t *testing.T) {
	for _, s := range []string{
		"a\nb", "a\r\nb", "a\rb", "a\n\n\nb c", "\n\na", "\ta\tb", "\u4e2d \u4e2d\u6587 x", "\u00e9\n\u00e9 \u00e9", "\U0001f600\U0001f600+\U0001f600", "\r\n\r\n x \r\n", "1|2\n3|4 5", "a\u2028b c", "x\n\t\n\r\n y\n",
		"in\n\nx\n;\nlet\na\n=\n\u4e2d\u4e2d\n*\n2|3\n;", "\n \n \n  z",
	} {
		hold(t, s, lexed(s))
		for _, ahead := range []string{" ", "\n", "\u4e2d ", "1|2\r\n", "\n\n\n;;;\t"} {
			hold(t, ahead+s, lexed(ahead+s))
			hold(t, ahead+s+ahead+s, lexed(ahead+s+ahead+s))
			hold(t, ahead+s+" |", lexed(ahead+s+" |"))
		}
	}
}

// everyText goes through all texts of these pieces, up to so many of them.
func everyText(pieces []string, most int, do func(s string)) {
	var more func(s string, left int)
	more = func(s string, left int) {
		do(s)
		if left == 0 {
			return
		}
		for _, p := range pieces {
			more(s+p, left-1)
		}
	}
	more("", most)
}

func TestEveryShortTextAsThePatternsTell(t *testing.T) {
	look := func(s string) {
		list, at, e := Lex(s)
		if want := lexed(s); e != want.e || at != want.at || !slices.Equal(list, want.list) {
			t.Errorf("%q: %v, %v, %v, not %v", s, list, at, e, want)
		}
	}
	everyText([]string{"x", "0", "1", "|", "+", " ", "\n"}, 5, look)
	everyText([]string{"\u00e9", "7", "\xc3", "\xa9", "\ufffd", "\t", "\r", "_"}, 4, look)
	everyText([]string{word(20), digits(20), "0", "|", "\n"}, 5, look)
	everyText([]string{"in", "let", "out", "2|3", "0|", ";", "\u4e2d", "\U0001f600 "}, 4, look)
}

// P10.1: how long a text may be

func TestTextsOfAsManyBytesAsMayBeAndOfOneMore(t *testing.T) {
	for _, blank := range []string{" ", "\n", "\t", "\r"} {
		tells(t, strings.Repeat(blank, 60000))
		fails(t, strings.Repeat(blank, 60001), api.ErrLong, 1, 1)
	}
	lines := strings.Repeat("\n", 59999)
	tells(t, lines+"x", "x")
	hold(t, lines+"x", answer{list: []api.Token{{Kind: 0, Text: "x", At: api.Place{Line: 60000, Col: 1}}}})
	fails(t, lines+"|", api.ErrSyntax, 60000, 1)
	spaces := strings.Repeat(" ", 59999)
	hold(t, spaces+"7", answer{list: []api.Token{{Kind: 1, Text: "7", At: api.Place{Line: 1, Col: 60000}}}})
	tells(t, "x"+spaces, "x")
	fails(t, "x"+spaces+" ", api.ErrLong, 1, 1)
	fails(t, spaces+"xy", api.ErrLong, 1, 1)
	fails(t, spaces+"\u00e9", api.ErrLong, 1, 1)
	tells(t, spaces[1:]+"\u00e9", "\u00e9")
	fails(t, strings.Repeat("x", 60000), api.ErrLong, 1, 1)
	fails(t, "+"+strings.Repeat("x", 59999), api.ErrLong, 1, 2)
}

func TestBytesAreCountedNotRunes(t *testing.T) {
	s := strings.Repeat(strings.Repeat("\u4e2d", 13)+" ", 1500)
	if len(s) != 60000 {
		t.Fatal(len(s))
	}
	hold(t, s, lexed(s))
	if list, _, e := Lex(s); e != api.OK || len(list) != 1500 {
		t.Error(len(list), e)
	}
	fails(t, s+"\n", api.ErrLong, 1, 1)
	fails(t, s[1:]+"xy", api.ErrLong, 1, 1)
}

func TestTextsThatAreTooLongWithSomethingElseWrong(t *testing.T) {
	spaces := strings.Repeat(" ", 60000)
	for _, wrong := range append(noTokens(), "00", "1|0", "1|", word(41), digits(41), "1|2|3") {
		fails(t, wrong+spaces, api.ErrLong, 1, 1)
		fails(t, "\n"+wrong+spaces, api.ErrLong, 1, 1)
		fails(t, spaces+wrong, api.ErrLong, 1, 1)
		fails(t, wrong+spaces[len(wrong):], lexed(wrong).e, 1, lexed(wrong).at.Col)
	}
	fails(t, strings.Repeat(";", 60001), api.ErrLong, 1, 1)
	fails(t, strings.Repeat(";", 60000), api.ErrLong, 1, 4001)
	fails(t, strings.Repeat("|", 60001), api.ErrLong, 1, 1)
	fails(t, strings.Repeat("|", 60000), api.ErrSyntax, 1, 1)
	fails(t, strings.Repeat("\xff", 1000000), api.ErrLong, 1, 1)
}

// P10.1: how many tokens there may be

// most are texts of MaxTokens tokens.
func most() []string {
	return []string{
		strings.Repeat(";", 4000), strings.Repeat("x ", 4000), strings.Repeat("1\n", 4000), strings.Repeat("2|3 ", 4000), strings.Repeat("\u4e2d\t", 4000),
		strings.Repeat("\r\nx = 1|2 ", 1333) + ";", strings.Repeat("1x+", 1333) + "y", " \n\t" + strings.Repeat("-", 3999) + word(40), strings.Repeat("(", 3999) + digits(40) + "|" + digits(40),
	}
}

func TestAsManyTokensAsMayBe(t *testing.T) {
	for _, s := range most() {
		list, at, e := Lex(s)
		if len(list) != 4000 || e != api.OK || at != (api.Place{}) {
			t.Errorf("%q: %d, %v at %v", short(s), len(list), e, at)
		}
		for _, behind := range []string{"", " ", "\n", "\t", "\r", " \r\n\t ", strings.Repeat(" \n", 1000)} {
			hold(t, s+behind, lexed(s+behind))
			if list, _, e := Lex(s + behind); len(list) != 4000 || e != api.OK {
				t.Errorf("%q: %d, %v", short(s), len(list), e)
			}
		}
	}
}

func TestOneTokenMore(t *testing.T) {
	for _, s := range most() {
		s += "\n"
		line := 1 + strings.Count(s, "\n")
		for _, more := range append(noTokens(), ";", "x", "in", "1", "0", "2|3", "\u4e2d", word(40), word(41), digits(41), "1|"+digits(41), "00", "1|0", "01", "1|", "|1", "1|2|3", "; ;", "x y", "\v", "x|", ";\xff") {
			hold(t, s+more, answer{nil, api.Place{Line: line, Col: 1}, api.ErrLong})
			hold(t, s+" \t"+more+" ", answer{nil, api.Place{Line: line, Col: 3}, api.ErrLong})
		}
	}
	marks := strings.Repeat(";", 4000)
	fails(t, marks+";", api.ErrLong, 1, 4001)
	fails(t, marks+";;;;", api.ErrLong, 1, 4001)
	fails(t, marks+"|", api.ErrLong, 1, 4001)
	fails(t, marks+"\xff", api.ErrLong, 1, 4001)
	fails(t, marks+" |", api.ErrLong, 1, 4002)
	fails(t, marks+"\n\n |", api.ErrLong, 3, 2)
	fails(t, strings.Repeat(";", 3999)+word(40)+"\xff", api.ErrLong, 1, 4040)
	fails(t, strings.Repeat("1|2 ", 4000)+"x", api.ErrLong, 1, 16001)
}

func TestOneTokenLess(t *testing.T) {
	marks := strings.Repeat(";", 3999)
	for _, s := range []string{"x", "in", "2|3", "0", "+", word(40), "\u4e2d"} {
		if list, _, e := Lex(marks + s); e != api.OK || len(list) != 4000 || list[3999].Text != s {
			t.Errorf("%q: %d, %v", s, len(list), e)
		}
	}
	for _, s := range append(noTokens(), "00", "1|0", "01", "|") {
		fails(t, marks+s, api.ErrSyntax, 1, 4000)
		fails(t, marks+s+marks, api.ErrSyntax, 1, 4000)
	}
	fails(t, marks+word(41), api.ErrLong, 1, 4000)
	fails(t, marks+digits(41), api.ErrLong, 1, 4000)
	fails(t, marks+"1x", api.ErrLong, 1, 4001)
	fails(t, marks+"1|", api.ErrLong, 1, 4001)
	fails(t, marks+"1|2|3", api.ErrLong, 1, 4003)
	fails(t, marks+"x\xff", api.ErrLong, 1, 4001)
}

// P10.1: which error is the first one

func TestTheFirstOfTwoErrors(t *testing.T) {
	wrongs := []struct {
		s string
		e api.Errno
	}{{"|", api.ErrSyntax}, {"\xff", api.ErrSyntax}, {"00", api.ErrSyntax}, {"1|0", api.ErrSyntax}, {word(41), api.ErrLong}, {digits(41), api.ErrLong}, {"1|" + digits(41), api.ErrLong}, {digits(41) + "|0", api.ErrLong}}
	for _, x := range wrongs {
		for _, y := range wrongs {
			fails(t, x.s+" "+y.s, x.e, 1, 1)
			fails(t, "a\n "+x.s+"\n"+y.s, x.e, 2, 2)
			fails(t, "in "+x.s+" ; "+y.s+" ;", x.e, 1, 4)
		}
		many := strings.Repeat(";", 4001)
		fails(t, x.s+" "+many, x.e, 1, 1)
		fails(t, many+x.s, api.ErrLong, 1, 4001)
		fails(t, many[1:]+x.s, api.ErrLong, 1, 4001)
		fails(t, many[2:]+x.s, x.e, 1, 4000)
	}
}

// R3

func TestWithAnErrorNoTokensAndWithoutOneNoPlace(t *testing.T) {
	for _, s := range []string{"a b |", "a b 00", "a b " + word(41), strings.Repeat("a ", 4001), strings.Repeat(" ", 60001), "\xff", "|"} {
		if list, at, e := Lex(s); len(list) != 0 || at == (api.Place{}) || e == api.OK {
			t.Errorf("%q: %d tokens, %v, %v", short(s), len(list), at, e)
		}
	}
	for _, s := range []string{"", " ", "a", "a b\nc", "1|2", strings.Repeat("a\n", 4000), strings.Repeat("\n", 60000)} {
		if _, at, e := Lex(s); at != (api.Place{}) || e != api.OK {
			t.Errorf("%q: %v, %v", short(s), at, e)
		}
	}
}

// P10.2

func TestNumberIsOneThatMayBe(t *testing.T) {
	for _, s := range []string{"0", "1", "9", "10", "12", "2|3", "4|6", "0|1", "0|7", "0|10", "1|1", "100|1", digits(40), "1|" + digits(40), digits(40) + "|" + digits(40), "0|" + digits(40), "1" + strings.Repeat("0", 39)} {
		if !Number(s) {
			t.Errorf("Number(%q) is false", s)
		}
	}
	for _, s := range []string{
		"", " ", "\n", "|", "||", "1|", "|1", "0|", "|0", "1||2", "1|2|3", "1|2|", "|1|2", "00", "01", "007", "1|0", "0|0", "1|00", "1|01", "01|1", "00|1", "0|01",
		" 1", "1 ", "\t1", "1\n", "\r1", "1\r", " 1|2", "1|2 ", "1 |2", "1| 2", "1 2", "1|2 3", "1|2 3|4", "1\n2", "1,2", "1+2", "-1", "+1", "1|-2", "-0", "(1)", "1;", "1.5", "1e5", "0x1", "1_0", "x", "in", "x1", "1x", "1|2x", "x|1", "1|x", "+", ";",
		"\u0661", "1\u0662", "\uff11", "1\xff", "\xff1", "\xff", "1\x00", "1|\x00", "1|2\xff", "\ufffd", "1\ufffd",
		digits(41), "1|" + digits(41), digits(41) + "|1", digits(41) + "|" + digits(41), digits(41) + "|", digits(40) + "|", strings.Repeat("0", 40), strings.Repeat("0", 41), "1|" + strings.Repeat("0", 41), "0" + digits(39), "0" + digits(40), "1|0" + digits(39), digits(40) + " ", digits(40) + "x",
		strings.Repeat(" ", 60000) + "1", digits(70000), "1" + strings.Repeat(" ", 60000), strings.Repeat("1|", 60000),
	} {
		if Number(s) {
			t.Errorf("Number(%q) is true", short(s))
		}
	}
}

func TestNumberOfEveryShortText(t *testing.T) {
	look := func(s string) {
		if got, want := Number(s), good.MatchString(s); got != want {
			t.Errorf("Number(%q) = %t", s, got)
		}
	}
	everyText([]string{"0", "1", "9", "|", " "}, 7, look)
	everyText([]string{"0", "2", "|", "x", "-", "\n", "\xff", "\u00e9"}, 4, look)
	everyText([]string{digits(13), digits(14), "0", "|"}, 7, look)
}

func TestNumberIsWhatLexTellsAsOneTokenThatIsAll(t *testing.T) {
	everyText([]string{"0", "1", "|", " ", "x", ";", digits(39)}, 5, func(s string) {
		list, _, e := Lex(s)
		alone := e == api.OK && len(list) == 1 && list[0].Kind == api.Number && list[0].Text == s
		if Number(s) != alone {
			t.Errorf("%q: %v, %v", s, list, e)
		}
	})
}

// P10.3

// joined tells whether two tokens would be other ones if no blank stood between them.
func joined(a, b string) bool {
	return kindOf(a) == 0 && kindOf(b) != 2 || kindOf(a) == 1 && kindOf(b) == 1
}

func TestBlanksMoreOrLess(t *testing.T) {
	all := []string{"in", "x1", "2", "2|3", "0", "+", "-", "(", ";", "\u4e2d", "out", "7|10"}
	gaps := []string{" ", "\t", "\n", "\r", "\r\n", "  ", " \t\r\n", "\n\n\n"}
	for _, a := range all {
		for _, b := range all {
			for _, c := range all {
				between := gaps
				if !joined(a, b) && !joined(b, c) {
					between = append([]string{""}, gaps...)
				}
				for i, gap := range between {
					ahead, behind := between[(i+1)%len(between)], between[(i+2)%len(between)]
					list, at, e := Lex(ahead + a + gap + b + gap + c + behind)
					if e != api.OK || at != (api.Place{}) || len(list) != 3 || list[0].Text != a || list[1].Text != b || list[2].Text != c {
						t.Fatalf("%q, %q, %q with %q: %v, %v", a, b, c, gap, list, e)
					}
				}
			}
		}
	}
}

func TestBlanksThatKeepTokensApart(t *testing.T) {
	tells(t, "a b", "a", "b")
	tells(t, "ab", "ab")
	tells(t, "a 1", "a", "1")
	tells(t, "a1", "a1")
	tells(t, "1 2", "1", "2")
	tells(t, "12", "12")
	tells(t, "1|2 3", "1|2", "3")
	tells(t, "1|23", "1|23")
	tells(t, "1 2|3", "1", "2|3")
	tells(t, "12|3", "12|3")
	fails(t, "1|2 |3", api.ErrSyntax, 1, 5)
}

func TestMoreBlanksInAProgram(t *testing.T) {
	plain := "in x,y;let a=x*y^2/3|4-(x);let b=-a+0;out a,b;"
	want, _, _ := Lex(plain)
	if len(want) != 33 {
		t.Fatal(len(want))
	}
	for _, gap := range []string{" ", "\t", "\n", "\r", "\r\n", " \n ", strings.Repeat(" ", 100)} {
		s := gap
		for _, x := range want {
			s += x.Text + gap
		}
		got, at, e := Lex(s)
		if e != api.OK || at != (api.Place{}) || len(got) != len(want) {
			t.Fatalf("%q: %v at %v", gap, e, at)
		}
		for i := range got {
			if got[i].Text != want[i].Text || got[i].Kind != want[i].Kind {
				t.Errorf("%q: %v, not %v", gap, got[i], want[i])
			}
		}
	}
}

// R5, R6

func TestWhatIsHandedInStaysAsItWas(t *testing.T) {
	for _, s := range append(most(), "in x; let a = x * x; out a;", "a\xff", "1|2", "00", "", " \n") {
		whole := "12" + s + "34"
		was := strings.Clone(whole)
		part := whole[2 : 2+len(s)]
		first, at, e := Lex(part)
		second, _, _ := Lex(strings.Clone(s))
		if !slices.Equal(first, second) || Number(part) != good.MatchString(s) {
			t.Errorf("%q: %d and %d tokens", short(s), len(first), len(second))
		}
		hold(t, part, answer{first, at, e})
		if whole != was {
			t.Errorf("%q became %q", short(was), short(whole))
		}
	}
}

func TestAnswersAreMemoryOfTheirOwn(t *testing.T) {
	s := "in x; let a = 2|3 * x; out a;"
	first, _, _ := Lex(s)
	second, _, _ := Lex(s)
	for i := range first {
		first[i] = api.Token{Kind: 9, Text: "changed"}
	}
	hold(t, s, lexed(s))
	if !slices.Equal(second, lexed(s).list) {
		t.Error(second)
	}
}

func TestWhatWasAskedAheadChangesNothing(t *testing.T) {
	texts := []string{"a b", "|", strings.Repeat(";", 4001), "1|2 x", "\n\n" + word(41), "", "x = 1;", strings.Repeat(" ", 60001)}
	for _, a := range texts {
		for _, b := range texts {
			Lex(a)
			Number(a)
			hold(t, b, lexed(b))
		}
	}
}
