package tree

import (
	"math"
	"slices"
	"strconv"
	"strings"
	"testing"

	"talweg/api"
	"talweg/lex"
	"talweg/sign"
)

// Nodes of each kind.

func ref(name string) api.Node      { return api.Node{Kind: api.Ref, Name: name} }
func constant(s string) api.Node    { return api.Node{Kind: api.Const, Num: rat(s)} }
func two(kind, a, b int) api.Node   { return api.Node{Kind: kind, A: a, B: b} }
func negative(a int) api.Node       { return api.Node{Kind: api.Neg, A: a} }
func powered(a, exp int) api.Node   { return api.Node{Kind: api.Pow, A: a, Exp: exp} }
func only(all ...api.Node) api.Prog { return one(all) }

// one is a program of one let.
func one(all []api.Node) api.Prog {
	return api.Prog{Ins: []string{"x"}, Lets: []api.Let{{Name: "a", Root: len(all) - 1}}, Outs: []string{"a"}, All: all}
}

// reads looks whether Parse tells a program, and whether the forms tell it, too.
func reads(t *testing.T, s string, want api.Prog) {
	t.Helper()
	hold(t, s, answer{p: want})
	look(t, s)
}

// full is a text with all forms in it.
const full = "in x, y1;\nlet a = x * (y1 + 2|3) - -x ^ 2;\n let b = ((4|6)) / a^-20 * -(-(x - 1))^0;\nlet c=y1;\nout a, y1,c ;"

// programs are some of all kinds.
func programs() []string {
	return []string{
		"in x; out x;", "in x, y; out y, x, y;", let("x"), let("0"), let("2|3"), let("-x"), let("x^2"), let("x^-2"), let("(x)"), let("x + 1"), let("x / (x - 1)"), full,
		"in x; let a = x; let b = a; out b;", "in x; let a = x * x; let b = a^2 + x; let c = -b; out c, a;",
		"in x, x; let x = x; let x = z; out q, q;", "in \u00e9, \u4e2d1; let \U0001f600 = \u00e9 / \u4e2d1; out \U0001f600;",
		let(digits(40) + "|" + digits(39)), let("-(-(2|3 * x) ^ 3) / (1 - x * x * x) + 4|6"),
	}
}

// digits are as many as are asked for, the first one not 0.
func digits(n int) string { return strings.Repeat("1234567890", n/10+1)[:n] }

// cut are a text's tokens.
func cut(s string) []api.Token {
	list, _, e := lex.Lex(s)
	if e != api.OK {
		panic(s)
	}
	return list
}

// texts are a text's tokens' own.
func texts(s string) []string {
	var list []string
	for _, x := range cut(s) {
		list = append(list, x.Text)
	}
	return list
}

// ends are where a text's tokens end.
func ends(s string) []int {
	var list []int
	at := 0
	for _, text := range texts(s) {
		at += strings.Index(s[at:], text) + len(text)
		list = append(list, at)
	}
	return list
}

// P11.1: programs

func TestTheNumbers(t *testing.T) {
	if MaxNodes != 400 || MaxDepth != 60 || MaxNames != 40 || MaxExp != 20 {
		t.Error(MaxNodes, MaxDepth, MaxNames, MaxExp)
	}
	if kinds := []int{api.Ref, api.Const, api.Add, api.Sub, api.Mul, api.Div, api.Neg, api.Pow}; !slices.Equal(kinds, []int{0, 1, 2, 3, 4, 5, 6, 7}) || api.ErrLong != 4 || api.ErrSyntax != 5 {
		t.Error(kinds, api.ErrLong, api.ErrSyntax)
	}
}

func TestTheExample(t *testing.T) {
	reads(t, "in x; let a = 2 * x ^ -3; out a;", only(constant("2"), ref("x"), powered(1, -3), two(api.Mul, 0, 2)))
}

func TestProgramsWithTheirNodes(t *testing.T) {
	reads(t, "in x; out x;", api.Prog{Ins: []string{"x"}, Outs: []string{"x"}})
	reads(t, "in x,y,z; out z,x,z;", api.Prog{Ins: []string{"x", "y", "z"}, Outs: []string{"z", "x", "z"}})
	reads(t, let("x"), only(ref("x")))
	reads(t, let("7"), only(constant("7")))
	reads(t, let("x + y"), only(ref("x"), ref("y"), two(api.Add, 0, 1)))
	reads(t, let("x - 1"), only(ref("x"), constant("1"), two(api.Sub, 0, 1)))
	reads(t, let("1|2 * x"), only(constant("1|2"), ref("x"), two(api.Mul, 0, 1)))
	reads(t, let("x / x"), only(ref("x"), ref("x"), two(api.Div, 0, 1)))
	reads(t, let("-x"), only(ref("x"), negative(0)))
	reads(t, let("x^20"), only(ref("x"), powered(0, 20)))
	reads(t, let("x + y * z"), only(ref("x"), ref("y"), ref("z"), two(api.Mul, 1, 2), two(api.Add, 0, 3)))
	reads(t, let("x * y + z"), only(ref("x"), ref("y"), two(api.Mul, 0, 1), ref("z"), two(api.Add, 2, 3)))
	reads(t, let("(x + y) * (z - w)"), only(ref("x"), ref("y"), two(api.Add, 0, 1), ref("z"), ref("w"), two(api.Sub, 3, 4), two(api.Mul, 2, 5)))
	reads(t, let("-x^2 - -y"), only(ref("x"), powered(0, 2), negative(1), ref("y"), negative(3), two(api.Sub, 2, 4)))
	reads(t, "in x, y; let a = x + y; let b = -a; let c = 1; out b, x;", api.Prog{
		Ins: []string{"x", "y"}, Lets: []api.Let{{Name: "a", Root: 2}, {Name: "b", Root: 4}, {Name: "c", Root: 5}}, Outs: []string{"b", "x"},
		All: []api.Node{ref("x"), ref("y"), two(api.Add, 0, 1), ref("a"), negative(3), constant("1")},
	})
	reads(t, "in x; let a = x * x; let b = (a - 1)^2; out b;", api.Prog{
		Ins: []string{"x"}, Lets: []api.Let{{Name: "a", Root: 2}, {Name: "b", Root: 6}}, Outs: []string{"b"},
		All: []api.Node{ref("x"), ref("x"), two(api.Mul, 0, 1), ref("a"), constant("1"), two(api.Sub, 3, 4), powered(5, 2)},
	})
}

func TestNamesNeedNotBeKnownNorDiffer(t *testing.T) {
	reads(t, "in x, x; let x = x; let x = z; out q, q;", api.Prog{
		Ins: []string{"x", "x"}, Lets: []api.Let{{Name: "x", Root: 0}, {Name: "x", Root: 1}}, Outs: []string{"q", "q"}, All: []api.Node{ref("x"), ref("z")},
	})
	long := strings.Repeat("n", 40)
	for _, name := range []string{"y", "_", "ins", "In", "LET", "out1", "let_", "inout", "\u00e9", "\u4e2d\u6587", "\U0001f6001", long} {
		p := one([]api.Node{ref(name)})
		p.Ins, p.Lets[0].Name, p.Outs = []string{name, name}, name, []string{name}
		reads(t, "in "+name+","+name+"; let "+name+" = "+name+"; out "+name+";", p)
	}
}

func TestOrdinaryPrograms(t *testing.T) {
	for _, s := range programs() {
		fine(t, s)
		list := texts(s)
		for _, blank := range []string{" ", "\n", "\t", "\r\n", " \n\n\t"} {
			more := fine(t, blank+strings.Join(list, blank)+blank)
			if p, _, _ := Parse(s); !same(p, more) {
				t.Errorf("%q with blanks %q: %v", s, blank, more)
			}
		}
	}
}

// becomes are expressions, and the same ones with brackets round all that is made of others.
func becomes() [][2]string {
	return [][2]string{
		// Signs ahead of each other.
		{"x + - - y", "(x+(-(-y)))"}, {"x * - y", "(x*(-y))"}, {"x ^ - 2", "(x^-2)"}, {"- x ^ 2", "(-(x^2))"}, {"- - x", "(-(-x))"}, {"- - - 2|3", "(-(-(-2|3)))"},
		{"x - - y", "(x-(-y))"}, {"x - - - y", "(x-(-(-y)))"}, {"x / - - y", "(x/(-(-y)))"}, {"- x * y", "((-x)*y)"}, {"- x / - y", "((-x)/(-y))"}, {"- x + y", "((-x)+y)"}, {"- x - y", "((-x)-y)"},
		{"x * - y * z", "((x*(-y))*z)"}, {"x * - y + z", "((x*(-y))+z)"}, {"x + - y * z", "(x+((-y)*z))"}, {"x - - y - z", "((x-(-y))-z)"}, {"- - x ^ 2 * y", "((-(-(x^2)))*y)"}, {"x * - y ^ - 3", "(x*(-(y^-3)))"}, {"- x ^ - 2 - 1", "((-(x^-2))-1)"},
		{"-(x + y)", "(-(x+y))"}, {"-(-x)", "(-(-x))"}, {"-(x)^2", "(-(x^2))"}, {"(-x)^2", "((-x)^2)"}, {"- 2 ^ 2", "(-(2^2))"},
		// From left to right.
		{"x + y + z", "((x+y)+z)"}, {"x - y - z", "((x-y)-z)"}, {"x - y + z", "((x-y)+z)"}, {"x + y - z", "((x+y)-z)"}, {"x * y * z", "((x*y)*z)"}, {"x / y / z", "((x/y)/z)"}, {"x / y * z", "((x/y)*z)"}, {"x * y / z", "((x*y)/z)"},
		{"a + b - c + d - e", "((((a+b)-c)+d)-e)"}, {"a * b / c * d / e", "((((a*b)/c)*d)/e)"}, {"x - (y - z)", "(x-(y-z))"}, {"x / (y / z)", "(x/(y/z))"}, {"x - (y + z) - w", "((x-(y+z))-w)"},
		{"a * b + c * d", "((a*b)+(c*d))"}, {"a + b * c - d / e + f", "(((a+(b*c))-(d/e))+f)"}, {"a / b - c * d * e", "((a/b)-((c*d)*e))"}, {"a + b * c ^ 2 * d", "(a+((b*(c^2))*d))"}, {"(a + b) * c", "((a+b)*c)"}, {"a * (b + c)", "(a*(b+c))"}, {"a - b * (c - d) / e", "(a-((b*(c-d))/e))"},
		// Brackets.
		{"(x)", "x"}, {"((x))", "x"}, {"((((2|3))))", "2|3"}, {"(x + y)", "(x+y)"}, {"((x + y))", "(x+y)"}, {"(x) + (y)", "(x+y)"}, {"((x) * (y))", "(x*y)"}, {"(x + (y + (z + w)))", "(x+(y+(z+w)))"}, {"(((x + y) + z) + w)", "(((x+y)+z)+w)"}, {"(-(x))", "(-x)"}, {"-((x))", "(-x)"}, {"((x))^2", "(x^2)"},
		// Powers.
		{"x^2", "(x^2)"}, {"(x^2)^3", "((x^2)^3)"}, {"((x^2)^3)^-4", "(((x^2)^3)^-4)"}, {"(x^-2)^-3", "((x^-2)^-3)"}, {"2^3", "(2^3)"}, {"2|3^4", "(2|3^4)"}, {"(x + y)^2", "((x+y)^2)"}, {"(x * y)^-1", "((x*y)^-1)"}, {"x * y^2", "(x*(y^2))"}, {"x^2 * y", "((x^2)*y)"}, {"x^2 + y^2", "((x^2)+(y^2))"}, {"x^2 - 1", "((x^2)-1)"}, {"x^-2 - 1", "((x^-2)-1)"}, {"x^2/y^-2", "((x^2)/(y^-2))"}, {"(-x^2)^2", "((-(x^2))^2)"},
		{"x^0", "(x^0)"}, {"x^-0", "(x^0)"}, {"x^1", "(x^1)"}, {"x^-1", "(x^-1)"}, {"x^9", "(x^9)"}, {"x^10", "(x^10)"}, {"x^19", "(x^19)"}, {"x^20", "(x^20)"}, {"x^-19", "(x^-19)"}, {"x^-20", "(x^-20)"}, {"x^ - 20", "(x^-20)"}, {"(((x)))^20", "(x^20)"},
	}
}

func TestWhatExpressionsBecome(t *testing.T) {
	for _, x := range becomes() {
		p := fine(t, let(x[0]))
		left := len(p.All)
		if got := bracketed(p.All, len(p.All)-1, &left); got != x[1] || left != 0 {
			t.Errorf("%q becomes %q, not %q (%d nodes beside it)", x[0], got, x[1], left)
		}
		if q := fine(t, let(x[1])); !same(p, q) {
			t.Errorf("%q becomes %v, %q %v", x[0], p, x[1], q)
		}
	}
}

func TestEveryExponent(t *testing.T) {
	for n := 0; n <= 25; n++ {
		for _, ahead := range []string{"", "-", " - "} {
			s := "in x; let a = x^" + ahead + strconv.Itoa(n)
			if n > 20 {
				fails(t, s+"; out a;", api.ErrSyntax, 1, 17+len(ahead))
				continue
			}
			exp := n
			if ahead != "" {
				exp = -n
			}
			reads(t, s+"; out a;", only(ref("x"), powered(0, exp)))
		}
	}
}

func TestExponentsThatMayNotBe(t *testing.T) {
	for _, exp := range []string{"21", "22", "30", "99", "100", "200", "201", "1000", "4294967297", "18446744073709551617", "18446744073709551618", digits(40), "2|3", "4|2", "20|1", "0|1", "1|1", "21|1", "y", "x", "_2", "in", "out", "let", "(", ")", "*", "^", "+", ";", "=", ",", "/"} {
		fails(t, let("x^"+exp), api.ErrSyntax, 1, 17)
		fails(t, let("x ^ "+exp), api.ErrSyntax, 1, 19)
		fails(t, let("x^-"+exp), api.ErrSyntax, 1, 18)
		fails(t, let("(x)^"+exp), api.ErrSyntax, 1, 19)
	}
	fails(t, let("x^(2)"), api.ErrSyntax, 1, 17)
	fails(t, let("x^--2"), api.ErrSyntax, 1, 18)
	fails(t, let("x ^ - - 2"), api.ErrSyntax, 1, 21)
	fails(t, let("x^-(2)"), api.ErrSyntax, 1, 18)
	fails(t, let("x^+2"), api.ErrSyntax, 1, 17)
	fails(t, let("x^2x"), api.ErrSyntax, 1, 18)
	fails(t, let("x^2 3"), api.ErrSyntax, 1, 19)
	fails(t, let("x^02"), api.ErrSyntax, 1, 17)
	fails(t, let("x^00"), api.ErrSyntax, 1, 17)
	fails(t, let("x^"+digits(41)), api.ErrLong, 1, 17)
}

func TestAPowerOfAPowerNeedsBrackets(t *testing.T) {
	fails(t, let("x^2^3"), api.ErrSyntax, 1, 18)
	fails(t, let("x^-2^3"), api.ErrSyntax, 1, 19)
	fails(t, let("x^2 ^ -3"), api.ErrSyntax, 1, 19)
	fails(t, let("2^3^4"), api.ErrSyntax, 1, 18)
	fails(t, let("(x^2)^3^4"), api.ErrSyntax, 1, 22)
	fails(t, let("(x^2^3)"), api.ErrSyntax, 1, 19)
	fails(t, let("(x)^2^3"), api.ErrSyntax, 1, 20)
	fails(t, let("-x^2^3"), api.ErrSyntax, 1, 19)
	reads(t, let("(x^2)^3"), only(ref("x"), powered(0, 2), powered(1, 3)))
	reads(t, let("((x^2)^-3)^0"), only(ref("x"), powered(0, 2), powered(1, -3), powered(2, 0)))
}

func TestNumbers(t *testing.T) {
	for _, x := range [][2]string{
		{"0", "0"}, {"1", "1"}, {"4294967295", "4294967295"}, {"4294967296", "4294967296"}, {"2|3", "2|3"}, {"4|6", "2|3"}, {"6|3", "2"}, {"5|5", "1"}, {"0|1", "0"}, {"0|7", "0"}, {"7|1", "7"}, {"100|10", "10"}, {"10|100", "1|10"},
		{digits(40), digits(40)}, {"1|" + digits(40), "1|" + digits(40)}, {digits(40) + "|1", digits(40)}, {digits(40) + "|" + digits(40), "1"}, {strings.Repeat("9", 40) + "|" + strings.Repeat("8", 40), "9|8"}, {"1" + strings.Repeat("0", 39) + "|" + strings.Repeat("9", 40), "1" + strings.Repeat("0", 39) + "|" + strings.Repeat("9", 40)},
	} {
		reads(t, let(x[0]), only(constant(x[1])))
		reads(t, let("-"+x[0]+"+"+x[0]), only(constant(x[1]), negative(0), constant(x[1]), two(api.Add, 1, 2)))
	}
	if p := fine(t, let("4|6")); p.All[0].Num.Neg || !slices.Equal(p.All[0].Num.Num, []uint32{2}) || !slices.Equal(p.All[0].Num.Den, []uint32{3}) {
		t.Error(p.All[0])
	}
	if p := fine(t, let("0|9")); p.All[0].Num.Neg || len(p.All[0].Num.Num) != 0 || !slices.Equal(p.All[0].Num.Den, []uint32{1}) {
		t.Error(p.All[0])
	}
	for _, s := range []string{"00", "01", "1|0", "1|", "|1", "1|01", "1|2|3"} {
		if p, _, e := Parse(let(s)); e != api.ErrSyntax || len(p.All) != 0 {
			t.Errorf("%q: %v", s, e)
		}
		look(t, let(s))
	}
	fails(t, let(digits(41)), api.ErrLong, 1, 15)
	fails(t, let("1|"+digits(41)), api.ErrLong, 1, 15)
}

// P11.1: texts that are none

func TestTextsWithoutATokenAndErrorsOfLex(t *testing.T) {
	fails(t, "", api.ErrSyntax, 1, 1)
	fails(t, " ", api.ErrSyntax, 1, 2)
	fails(t, "\n", api.ErrSyntax, 2, 1)
	fails(t, " \r\n\t", api.ErrSyntax, 2, 2)
	fails(t, "\n\n  ", api.ErrSyntax, 3, 3)
	fails(t, "|", api.ErrSyntax, 1, 1)
	fails(t, "in x; let a = $; out a;", api.ErrSyntax, 1, 15)
	fails(t, "in x; let a = 1|0; out a;", api.ErrSyntax, 1, 15)
	fails(t, "in x;\nlet a = x\xff;\nout a;", api.ErrSyntax, 2, 10)
	fails(t, "in "+strings.Repeat("x", 41)+"; out x;", api.ErrLong, 1, 4)
	fails(t, "in x; let a = "+digits(41)+"; out a;", api.ErrLong, 1, 15)
	fails(t, "in x; out x;"+strings.Repeat(" ", 59989), api.ErrLong, 1, 1)
	fine(t, "in x; out x;"+strings.Repeat(" ", 59988))
	fails(t, strings.Repeat("in ", 4001), api.ErrLong, 1, 12001)
	fails(t, strings.Repeat("in ", 4000), api.ErrSyntax, 1, 4)
}

func TestAnErrorOfLexIsAheadOfAllOthers(t *testing.T) {
	for _, ahead := range []string{"out ", "in in ", "in x; let a = ((; ", "in x; out x; 1 ", "x ^ 2 ^ 3 ", "in x; let a = " + strings.Repeat("-", 100) + "x; ", "in " + strings.Repeat("x,", 50) + "x; out x; "} {
		col := len(ahead) + 1
		fails(t, ahead+"$", api.ErrSyntax, 1, col)
		fails(t, ahead+"00", api.ErrSyntax, 1, col)
		fails(t, ahead+"1|0", api.ErrSyntax, 1, col)
		fails(t, ahead+"\xff", api.ErrSyntax, 1, col)
		fails(t, ahead+strings.Repeat("n", 41), api.ErrLong, 1, col)
		fails(t, ahead+digits(41), api.ErrLong, 1, col)
		fails(t, ahead+strings.Repeat(" ", 60000), api.ErrLong, 1, 1)
		fails(t, "\n"+ahead+"\n "+digits(41)+" $", api.ErrLong, 3, 2)
	}
}

func TestWrongPlaces(t *testing.T) {
	for _, x := range []struct {
		s         string
		line, col int
	}{
		// No input, no output, no let.
		{"in", 1, 3}, {"in ;", 1, 4}, {"in ; out x;", 1, 4}, {"out x;", 1, 1}, {"let a = 1; out a;", 1, 1}, {"in x;", 1, 6}, {"in x; ;", 1, 7}, {"in x; out", 1, 10}, {"in x; out ;", 1, 11}, {"in x; let a = x;", 1, 17}, {"in x; let a = x; out;", 1, 21}, {"in x; let ; out x;", 1, 11}, {"in x; let a; out a;", 1, 12}, {"in x; let a =; out a;", 1, 14}, {"in x; let = x; out x;", 1, 11}, {"in x out x;", 1, 6}, {"in x; out x", 1, 12}, {"in x; x; out x;", 1, 7}, {"in x; a = x; out a;", 1, 7}, {"x", 1, 1}, {";", 1, 1}, {"1", 1, 1},
		// in, let and out where a name must be.
		{"in in; out in;", 1, 4}, {"in let; out x;", 1, 4}, {"in out; out x;", 1, 4}, {"in x, in; out x;", 1, 7}, {"in x, out x;", 1, 7}, {"in x; out in;", 1, 11}, {"in x; out out;", 1, 11}, {"in x; out x, let;", 1, 14}, {"in x; let in = x; out x;", 1, 11}, {"in x; let out = x; out x;", 1, 11}, {"in x; let let = x; out x;", 1, 11}, {"in x; let a = in; out a;", 1, 15}, {"in x; let a = x + let; out a;", 1, 19}, {"in x; let a = -out; out a;", 1, 16}, {"in x; let a = (in); out a;", 1, 16}, {"in x; in y; out x;", 1, 7}, {"in x; let a = x; in y; out x;", 1, 18}, {"in x; out x; out x;", 1, 14}, {"in x; out x; let a = x;", 1, 14},
		// Commas.
		{"in x,; out x;", 1, 6}, {"in ,x; out x;", 1, 4}, {"in x,,y; out x;", 1, 6}, {"in x y; out x;", 1, 6}, {"in x; out x,;", 1, 13}, {"in x; out ,x;", 1, 11}, {"in x; out x,,x;", 1, 13}, {"in x; out x x;", 1, 13}, {"in x, y", 1, 8}, {"in x,", 1, 6}, {"in x, 1; out x;", 1, 7}, {"in x; let a, b = x; out a;", 1, 12}, {"in x; let a = x, x; out a;", 1, 16}, {"in x; out x, 2;", 1, 14}, {"in 1; out x;", 1, 4},
		// Something behind.
		{"in x; out x;;", 1, 13}, {"in x; out x; x", 1, 14}, {"in x; out x; 1", 1, 14}, {"in x; out x; in x; out x;", 1, 14}, {"in x; out x;\n\n )", 3, 2}, {"in x; let a = x; out a; let b = a;", 1, 25}, {"in x; out x; =", 1, 14},
		// Brackets.
		{let("()"), 1, 16}, {let("(())"), 1, 17}, {let("( )"), 1, 17}, {let("(x"), 1, 17}, {let("((x)"), 1, 19}, {let("x)"), 1, 16}, {let("(x))"), 1, 18}, {let(")"), 1, 15}, {let(")x("), 1, 15}, {let("(x + )"), 1, 20}, {let("x + ()"), 1, 20}, {let("(x)(y)"), 1, 18}, {let("x(y)"), 1, 16}, {let("(x)y"), 1, 18}, {let("2(x)"), 1, 16}, {let("(x,y)"), 1, 17}, {let("(x; y)"), 1, 17}, {let("x^2(y)"), 1, 18}, {let("(-)"), 1, 17},
		// Signs.
		{let("+x"), 1, 15}, {let("*x"), 1, 15}, {let("/x"), 1, 15}, {let("^2"), 1, 15}, {let("-"), 1, 16}, {let("- -"), 1, 18}, {let("x+"), 1, 17}, {let("x *"), 1, 18}, {let("x -"), 1, 18}, {let("x/"), 1, 17}, {let("x^"), 1, 17}, {let("x^-"), 1, 18}, {let("x + + y"), 1, 19}, {let("x - + y"), 1, 19}, {let("x * * y"), 1, 19}, {let("x + * y"), 1, 19}, {let("x / / y"), 1, 19}, {let("- + x"), 1, 17}, {let("x - - * y"), 1, 21}, {let("-^2"), 1, 16}, {let("x = y"), 1, 17}, {let("= x"), 1, 15}, {let("x y"), 1, 17}, {let("x 1"), 1, 17}, {let("1 x"), 1, 17}, {let("1 2"), 1, 17}, {let("2x"), 1, 16}, {let("2|3x"), 1, 18}, {let("x^2 y"), 1, 19}, {let("x^2 -"), 1, 20},
		{"in x;\nlet a = x +\n  ;\nout a;", 3, 3}, {"in x;\r\nlet a == x;", 2, 8}, {"in \u4e2d\u6587 \u00e9; out x;", 1, 7},
	} {
		fails(t, x.s, api.ErrSyntax, x.line, x.col)
	}
}

func TestCutOffBehindEachTokenAndAheadOfTheLastOne(t *testing.T) {
	for _, s := range programs() {
		all := ends(s)
		for _, end := range all[:len(all)-1] {
			for _, blank := range []string{"", " ", "\n", "\t \n\n  ", "\r", strings.Repeat("\n", 1000)} {
				cutOff := s[:end] + blank
				look(t, cutOff)
				if p, at, e := Parse(cutOff); e != api.ErrSyntax || at != sign.Place(cutOff, len(cutOff)) || len(p.Ins) != 0 {
					t.Errorf("%q: %v at %v", cutOff, e, at)
				}
			}
		}
		fine(t, s+"\n\n")
	}
	fails(t, "in x;\nlet a = (x + \u4e2d", api.ErrSyntax, 2, 15)
	fails(t, "in x;\nlet a = x\n  ", api.ErrSyntax, 3, 3)
	fails(t, "in x;\nout x\n\n", api.ErrSyntax, 4, 1)
}

func TestEveryByteAsTheEnd(t *testing.T) {
	for end := range len(full) {
		look(t, full[:end])
	}
}

func TestTokensLeftOutDoubledAndInPlaceOfOthers(t *testing.T) {
	others := []string{"in", "let", "out", "x", "q", "0", "2", "20", "21", "2|3", "+", "-", "*", "/", "^", "(", ")", "=", ";", ","}
	for _, s := range programs() {
		list := texts(s)
		try := func(list []string) {
			if text := strings.Join(list, " "); !agrees(text, parsed(text)) {
				look(t, text)
			}
		}
		for i := range list {
			try(slices.Delete(slices.Clone(list), i, i+1))
			try(slices.Insert(slices.Clone(list), i, list[i]))
			for _, other := range others {
				changed := slices.Clone(list)
				changed[i] = other
				try(changed)
				try(slices.Insert(slices.Clone(list), i, other))
			}
			for j := range i {
				changed := slices.Clone(list)
				changed[i], changed[j] = changed[j], changed[i]
				try(changed)
			}
		}
	}
}

// everyText goes through all texts of some tokens behind others that are a beginning: each beginning by itself, and with one token more with which it is none.
func everyText(t *testing.T, ahead, tokens []string, most int) {
	count := 0
	var more func(list []string, s stages, left int)
	more = func(list []string, s stages, left int) {
		count++
		look := func(list []string, at int) {
			text := strings.Join(list, " ")
			p, place, e := Parse(text)
			if at < 0 {
				if e != api.OK || place != (api.Place{}) || !same(p, built(list)) {
					t.Errorf("%q: %v, %v at %v", text, p, e, place)
				}
				return
			}
			col := len(strings.Join(list[:at], " ")) + 1
			if at < len(list) && at > 0 {
				col++
			}
			if e != api.ErrSyntax || place != (api.Place{Line: 1, Col: col}) || !same(p, api.Prog{}) {
				t.Errorf("%q: %v, %v at %v, not at %d", text, p, e, place, col)
			}
		}
		if s.ended() {
			look(list, -1)
		} else {
			look(list, len(list))
		}
		for _, token := range tokens {
			longer := append(list[:len(list):len(list)], token)
			next := s.behind(token)
			if len(next) == 0 {
				look(longer, len(list))
				look(append(longer, ahead...), len(list))
			} else if left > 0 {
				more(longer, append(s[:len(s):len(s)], next), left-1)
			}
		}
	}
	s := begun()
	for _, token := range ahead {
		s = append(s, s.behind(token))
	}
	more(ahead, s, most)
	if count < 300 {
		t.Errorf("only %d beginnings", count)
	}
}

func TestEveryShortText(t *testing.T) {
	everyText(t, nil, []string{"in", "let", "out", "x", "1", ",", ";", "=", "-"}, 13)
	everyText(t, strings.Fields("in x ; let a ="), []string{"x", "2", "-", "*", "(", ")", "^"}, 6)
	everyText(t, strings.Fields("in x ; let a ="), []string{"x", "2|3", "21", "+", "-", "/", "^", ";", "out"}, 6)
	everyText(t, strings.Fields("in x ; let a = ( x + y"), []string{"x", "20", "-", "*", "(", ")", "^", ";"}, 5)
	everyText(t, strings.Fields("in x ; let a = 1 ; let b = a"), []string{"let", "out", "a", "*", ";", ",", "=", "in", "^", "0", "("}, 7)
}

// P11.1: how much there may be

// xs are as many names as are asked for, with commas between.
func xs(n int) string { return strings.TrimSuffix(strings.Repeat("x,", n), ",") }

// balanced is a sum of so many names in brackets, of as little height as may be.
func balanced(n int) string {
	if n == 1 {
		return "x"
	}
	return "(" + balanced(n/2) + "+" + balanced(n-n/2) + ")"
}

func TestAsManyNodesAsMayBeAndOneMore(t *testing.T) {
	for _, x := range []struct{ fits, more string }{
		{let("-" + balanced(200)), let("--" + balanced(200))},
		{let("-" + balanced(200)), let(balanced(201))},
		{let(balanced(200) + "^2"), let("(" + balanced(200) + "^2)^2")},
		{"in x; " + strings.Repeat("let a = ---------x;", 40) + "out a;", "in x; " + strings.Repeat("let a = ---------x;", 39) + "let a = ----------x; out a;"},
		{"in x; let a = " + balanced(100) + "; let b = 1 * " + balanced(100) + "; out b;", "in x; let a = " + balanced(100) + "; let b = 1 * -" + balanced(100) + "; out b;"},
	} {
		if p := fine(t, x.fits); len(p.All) != 400 {
			t.Error(len(p.All))
		}
		fails(t, x.more, api.ErrLong, 1, 1)
		fails(t, "\n\n "+x.more, api.ErrLong, 1, 1)
	}
	fine(t, let(balanced(200)))
	fails(t, let(balanced(900)), api.ErrLong, 1, 1)
}

// nested is an expression with something ahead and behind, again and again.
func nested(ahead, behind string, n int) string {
	return strings.Repeat(ahead, n) + "x" + strings.Repeat(behind, n)
}

func TestAsHighAsMayBeAndOneMore(t *testing.T) {
	for _, x := range [][2]string{
		{"-", ""}, {"(-", ")"}, {"-(", ")"}, {"(", ")^2"}, {"(", ")^-3"}, {"", "+x"}, {"", "-x"}, {"", "*x"}, {"", "/x"}, {"(", "+x)"}, {"(", "*2)"}, {"(x+", ")"}, {"(x-", ")"}, {"(x*", ")"}, {"x/(", ")"}, {"x+(", ")"}, {"((", ")^2)"}, {"-((", "))"},
	} {
		p := fine(t, let(nested(x[0], x[1], 59)))
		if h := allHeights(p.All); len(p.All) == 0 || h[len(h)-1] != 60 {
			t.Errorf("%q, %q: %v", x[0], x[1], h)
		}
		fails(t, let(nested(x[0], x[1], 60)), api.ErrLong, 1, 1)
		fails(t, " \n"+let(nested(x[0], x[1], 61)), api.ErrLong, 1, 1)
		fails(t, let(nested(x[0], x[1], 160)), api.ErrLong, 1, 1)
	}
	fine(t, let(nested("(", ")", 1000)))
	fine(t, let(nested("-", "", 58)+"+y"))
	fails(t, let(nested("-", "", 59)+"+y"), api.ErrLong, 1, 1)
	fails(t, let("y+"+nested("-", "", 59)), api.ErrLong, 1, 1)
	fails(t, let("-x^2"+strings.Repeat("*y", 58)), api.ErrLong, 1, 1)
	fine(t, let("-x^2"+strings.Repeat("*y", 57)))
	high := "let a = " + nested("-", "", 60) + ";"
	fails(t, "in x; let b = x; "+high+" out b;", api.ErrLong, 1, 1)
	fails(t, "in x; "+high+" let b = x; out b;", api.ErrLong, 1, 1)
}

func TestHeightsDontGoOnFromLetToLet(t *testing.T) {
	s := "in x; "
	for i := range 6 {
		s += "let a" + strconv.Itoa(i) + " = " + strings.Repeat("-", 59) + "a" + strconv.Itoa(max(i-1, 0)) + "; "
	}
	p := fine(t, s+"out a5;")
	if h := Heights(p); len(h) != 360 || slices.Max(h) != 60 || h[60] != 1 {
		t.Error(h)
	}
}

func TestAsManyNamesAsMayBeAndOneMore(t *testing.T) {
	fine(t, "in "+xs(40)+"; out x;")
	fails(t, "in "+xs(41)+"; out x;", api.ErrLong, 1, 1)
	fails(t, "\n\nin "+xs(1000)+"; out x;", api.ErrLong, 1, 1)
	fine(t, "in x; out "+xs(40)+";")
	fails(t, "in x; out "+xs(41)+";", api.ErrLong, 1, 1)
	fine(t, "in x; "+strings.Repeat("let a = x; ", 40)+"out a;")
	fails(t, "in x; "+strings.Repeat("let a = x; ", 41)+"out a;", api.ErrLong, 1, 1)
	fine(t, "in "+xs(40)+"; "+strings.Repeat("let a = x; ", 40)+"out "+xs(40)+";")
}

func TestWhatIsNoProgramIsNotTooLong(t *testing.T) {
	high := nested("-", "", 60)
	fails(t, let(high)+"x", api.ErrSyntax, 1, 84)
	fails(t, let(high+")"), api.ErrSyntax, 1, 76)
	fails(t, "in x; let a = "+high, api.ErrSyntax, 1, 76)
	fails(t, "in x; let a = "+high+"; out", api.ErrSyntax, 1, 81)
	fails(t, let("("+balanced(300)), api.ErrSyntax, 1, 15+1+len(balanced(300)))
	fails(t, "in "+xs(50)+"; out ;", api.ErrSyntax, 1, 3+100+6)
	fails(t, "in "+xs(50)+",; out x;", api.ErrSyntax, 1, 3+100+1)
	fails(t, "in x; out "+xs(50), api.ErrSyntax, 1, 10+100)
	fails(t, "in x; "+strings.Repeat("let a = x; ", 41)+"out a", api.ErrSyntax, 1, 6+11*41+6)
	fails(t, "in x; "+strings.Repeat("let a = x; ", 41)+"let a = ; out a;", api.ErrSyntax, 1, 6+11*41+9)
	fails(t, "in x; let b = x^21; "+strings.Repeat("let a = x; ", 41)+"out a;", api.ErrSyntax, 1, 17)
}

func TestAsManyTokensAsThereMayBe(t *testing.T) {
	fine(t, let(nested("(", ")", 1994)))
	fine(t, let("-"+nested("(", ")", 1994)))
	fails(t, let("--"+nested("(", ")", 1994)), api.ErrLong, 1, len(let("--"+nested("(", ")", 1994))))
	fails(t, let("("+nested("(", ")", 1994)), api.ErrSyntax, 1, 15+3990)
	fails(t, let(nested("(", ")", 1994)+")"), api.ErrSyntax, 1, 15+3989)
	fails(t, let(nested("-", "", 3989)), api.ErrLong, 1, 1)
	fails(t, let(nested("(-", ")", 1300)), api.ErrLong, 1, 1)
	fails(t, let(nested("(", ")^2", 990)), api.ErrLong, 1, 1)
	fails(t, let(nested("", "+x", 1990)), api.ErrLong, 1, 1)
	fails(t, let(nested("", "*x", 1990)), api.ErrLong, 1, 1)
	fails(t, let(nested("x-(", ")", 990)), api.ErrLong, 1, 1)
	for _, many := range []string{"(", "-", "-(", "x*(", "(-", "x+-"} {
		n := 3994 / len(many)
		fails(t, "in x; let a = "+strings.Repeat(many, n), api.ErrSyntax, 1, 15+n*len(many))
		fails(t, "in x; let a = "+strings.Repeat(many, n-1)+";", api.ErrSyntax, 1, 15+(n-1)*len(many))
		fails(t, "in x; let a = "+strings.Repeat(many, n-1)+")", api.ErrSyntax, 1, 15+(n-1)*len(many))
	}
	fails(t, strings.Repeat("(", 4000), api.ErrSyntax, 1, 1)
	fails(t, strings.Repeat("(", 4001), api.ErrLong, 1, 4001)
	fails(t, "in x; let a = "+strings.Repeat("(", 3995), api.ErrLong, 1, 15+3994)
	fails(t, "in "+xs(1990)+"; out x;", api.ErrLong, 1, 1)
}

// chance tells numbers without a pattern that counts.
type chance uint32

func (c *chance) below(n int) int {
	*c = *c*1664525 + 1013904223
	return int(uint32(*c)>>8) % n
}

// some makes an expression of so many nodes at most, lays its nodes behind the list, and tells its text, and how tightly that binds: as a sum (0), a product, a factor, a power, an atom.
func (c *chance) some(all *[]api.Node, most int) (string, int) {
	gap := []string{"", " ", "\n", "  "}[c.below(4)]
	part := func(most, bind int) string {
		s, own := c.some(all, most)
		for own < bind || c.below(9) == 0 {
			s, own = "("+gap+s+")", 4
		}
		return s
	}
	add := func(n api.Node) { *all = append(*all, n) }
	last := func() int { return len(*all) - 1 }
	if most < 3 && (most < 2 || c.below(2) == 0) {
		if c.below(2) == 0 {
			add(ref(string(rune('p' + c.below(9)))))
			return (*all)[last()].Name, 4
		}
		s := strconv.Itoa(c.below(50)) + []string{"", "|" + strconv.Itoa(1+c.below(20))}[c.below(2)]
		add(constant(s))
		return s, 4
	}
	if kind := c.below(6); most >= 3 && kind < 4 {
		bind := kind / 2
		one := c.below(most-2) + 1
		s := part(one, bind)
		first := last()
		s += gap + string("+-*/"[kind]) + gap + part(most-1-one, bind+1)
		add(two(api.Add+kind, first, last()))
		return s, bind
	}
	if c.below(2) == 0 {
		s := "-" + gap + part(most-1, 2)
		add(negative(last()))
		return s, 2
	}
	s, exp := part(most-1, 4), c.below(41)-20
	add(powered(last(), exp))
	return s + gap + "^" + gap + strconv.Itoa(exp), 3
}

func TestProgramsWithoutAPattern(t *testing.T) {
	c := chance(7)
	for range 3000 {
		want := api.Prog{Ins: []string{"x", "y"}, Outs: []string{"a"}}
		s := "in x, y;"
		for range c.below(4) {
			text, _ := c.some(&want.All, 1+c.below(30))
			s += "let b = " + text + ";"
			want.Lets = append(want.Lets, api.Let{Name: "b", Root: len(want.All) - 1})
		}
		hold(t, s+" out a;", answer{p: want})
		if !Right(want) {
			t.Errorf("%v isn't right", want)
		}
	}
}

// P11.2, P11.3

// rightly tells whether Right and Heights tell of a program what they must.
func rightly(p api.Prog, want bool) bool {
	h := Heights(p)
	if !want {
		return !Right(p) && len(h) == 0
	}
	return Right(p) && slices.Equal(h, allHeights(p.All))
}

// right looks whether they tell that a program is right, or that it isn't, and whether a text tells so, too.
func right(t *testing.T, p api.Prog, want bool) {
	t.Helper()
	if !rightly(p, want) {
		t.Errorf("%v: %t, %v", p, Right(p), Heights(p))
	}
	if isRight(p) != want {
		t.Errorf("%v: there is a text: %t", p, !want)
	}
}

// copied is a program with lists of its own.
func copied(p api.Prog) api.Prog {
	q := api.Prog{Ins: slices.Clone(p.Ins), Lets: slices.Clone(p.Lets), Outs: slices.Clone(p.Outs), All: slices.Clone(p.All)}
	for i := range q.All {
		q.All[i].Num.Num = slices.Clone(q.All[i].Num.Num)
		q.All[i].Num.Den = slices.Clone(q.All[i].Num.Den)
	}
	return q
}

// turned looks at a program with something changed.
func turned(t *testing.T, p api.Prog, change func(q *api.Prog)) {
	t.Helper()
	q := copied(p)
	change(&q)
	if want := isRight(q); !rightly(q, want) {
		t.Errorf("%v: %t, %v, not %t", q, Right(q), Heights(q), want)
	}
}

// bases are right programs with nodes of each kind.
func bases() []api.Prog {
	var list []api.Prog
	for _, s := range append(programs(), "in x; let a = x + 1; let b = -(a * 2|3)^2 - x / a; out b;") {
		p, _, _ := Parse(s)
		list = append(list, p)
	}
	return list
}

// someNames are names and others.
func someNames() []string {
	return []string{"", "x", "q9", "_", "in", "let", "out", "In", "1", "1x", "x y", " x", "x ", "x,y", "x;", "-x", "(x)", "\u00e9", "\u4e2d1", "\xff", "x\xff", "\ufffd", "x\n", strings.Repeat("n", 40), strings.Repeat("n", 41), strings.Repeat("\u00e9", 20), strings.Repeat("\u00e9", 21), strings.Repeat("n", 4000), "\xed\xa0\x80", "x|"}
}

// someNumbers are right and others, of few and many digits.
func someNumbers() []api.Rat {
	nines, ten := rat(strings.Repeat("9", 40)).Num, rat("1"+strings.Repeat("0", 40)).Num
	long := make([]uint32, 5)
	long[4] = 1 << 31
	one := []uint32{1}
	return []api.Rat{
		{}, {Den: one}, {Num: []uint32{}, Den: one}, {Neg: true}, {Neg: true, Den: one}, {Num: []uint32{0}, Den: one}, {Num: []uint32{0}}, {Den: []uint32{0}}, {Den: []uint32{2}}, {Den: []uint32{1, 0}}, {Num: one}, {Num: one, Den: []uint32{0}},
		{Num: one, Den: one}, {Neg: true, Num: one, Den: one}, {Num: []uint32{2}, Den: []uint32{3}}, {Neg: true, Num: []uint32{2}, Den: []uint32{3}}, {Num: []uint32{4}, Den: []uint32{6}}, {Num: []uint32{3}, Den: []uint32{3}}, {Num: []uint32{2, 0}, Den: []uint32{3}}, {Num: []uint32{2}, Den: []uint32{3, 0}}, {Num: []uint32{0, 1}, Den: one},
		{Num: nines, Den: one}, {Num: one, Den: nines}, {Num: nines, Den: []uint32{2}}, {Num: nines, Den: nines}, {Num: ten, Den: one}, {Num: one, Den: ten}, {Num: nines, Den: ten}, {Num: ten, Den: nines}, {Neg: true, Num: nines, Den: one}, {Num: append(slices.Clone(nines), 0), Den: one}, {Num: append(slices.Clone(nines), 0, 0), Den: one},
		{Num: long, Den: one}, {Num: one, Den: long}, {Num: []uint32{1, 0, 0, 0, 0, 1}, Den: one}, {Num: one, Den: []uint32{1, 0, 0, 0, 0, 1}}, {Num: []uint32{5, 0, 0, 0, 0, 0, 0}, Den: one}, {Num: ten, Den: ten}, {Num: []uint32{2}, Den: ten},
	}
}

// someInts are about a list's ends, and far from these.
func someInts(n int) []int {
	list := []int{math.MinInt, math.MinInt + 1, -1 << 32, -400, -2, -1, n, n + 1, n + 2, 400, 401, 1 << 32, math.MaxInt - 1, math.MaxInt}
	for i := range n {
		list = append(list, i)
	}
	return list
}

func TestWhatIsParsedIsRight(t *testing.T) {
	for _, p := range bases() {
		right(t, p, true)
	}
	for _, x := range becomes() {
		p, _, e := Parse(let(x[0]))
		if e != api.OK {
			t.Error(x, e)
		}
		right(t, p, true)
	}
	for _, s := range []string{let("-" + balanced(200)), let(nested("-", "", 59)), let(nested("(x*", ")", 59)), "in " + xs(40) + "; " + strings.Repeat("let a = ---------x;", 40) + "out " + xs(40) + ";"} {
		p, _, e := Parse(s)
		if e != api.OK {
			t.Error(e)
		}
		right(t, p, true)
	}
}

func TestTheHeights(t *testing.T) {
	p, _, _ := Parse("in x; let a = x * (y + 2|3) - -x ^ 2; let b = a; let c = ((1)) / b; out a;")
	if h := Heights(p); !slices.Equal(h, []int{1, 1, 1, 2, 3, 1, 2, 3, 4, 1, 1, 1, 2}) {
		t.Error(h)
	}
	p, _, _ = Parse(let("-----(x + y^2)"))
	if h := Heights(p); !slices.Equal(h, []int{1, 1, 2, 3, 4, 5, 6, 7, 8}) {
		t.Error(h)
	}
	p, _, _ = Parse(let("x - y - z - (u * v)^3"))
	if h := Heights(p); !slices.Equal(h, []int{1, 1, 2, 1, 3, 1, 1, 2, 3, 4}) {
		t.Error(h)
	}
	p, _, _ = Parse("in x; out x;")
	if h := Heights(p); len(h) != 0 || !Right(p) {
		t.Error(h)
	}
}

func TestProgramsOfNoField(t *testing.T) {
	right(t, api.Prog{}, false)
	right(t, api.Prog{Ins: []string{}, Lets: []api.Let{}, Outs: []string{}, All: []api.Node{}}, false)
	right(t, api.Prog{Ins: []string{"x"}}, false)
	right(t, api.Prog{Outs: []string{"x"}}, false)
	right(t, api.Prog{Ins: []string{"x"}, Outs: []string{"x"}}, true)
	right(t, api.Prog{Ins: []string{"x"}, Lets: []api.Let{}, Outs: []string{"x"}, All: []api.Node{}}, true)
	right(t, api.Prog{Ins: []string{"x"}, Lets: []api.Let{{}}, Outs: []string{"x"}}, false)
	right(t, api.Prog{Ins: []string{"x"}, Outs: []string{"x"}, All: []api.Node{{}}}, false)
	right(t, api.Prog{Ins: []string{"x"}, Lets: []api.Let{{Name: "a"}}, Outs: []string{"x"}, All: []api.Node{{}}}, false)
	right(t, api.Prog{Ins: []string{"x"}, Lets: []api.Let{{Name: "a"}}, Outs: []string{"x"}, All: []api.Node{{Name: "y"}}}, true)
	right(t, api.Prog{Lets: []api.Let{{Name: "a"}}, All: []api.Node{{Name: "y"}}}, false)
	right(t, api.Prog{Ins: []string{"x"}, Lets: []api.Let{{Name: "a"}}, All: []api.Node{{Name: "y"}}}, false)
	right(t, api.Prog{Lets: []api.Let{{Name: "a"}}, Outs: []string{"x"}, All: []api.Node{{Name: "y"}}}, false)
}

func TestAnEmptyListIsANilOne(t *testing.T) {
	for _, p := range bases() {
		q := copied(p)
		if q.Lets == nil {
			q.Lets, q.All = []api.Let{}, []api.Node{}
		}
		for i := range q.All {
			for _, list := range []*[]uint32{&q.All[i].Num.Num, &q.All[i].Num.Den} {
				if *list == nil {
					*list = []uint32{}
				}
			}
		}
		right(t, q, true)
	}
}

func TestEachFieldOfEachNodeTurned(t *testing.T) {
	for _, p := range bases() {
		for i := range p.All {
			for _, v := range someInts(len(p.All)) {
				turned(t, p, func(q *api.Prog) { q.All[i].A = v })
				turned(t, p, func(q *api.Prog) { q.All[i].B = v })
				turned(t, p, func(q *api.Prog) { q.All[i].A, q.All[i].B = v, v })
			}
			for _, v := range append(someInts(10), -21, -20, -19, 19, 20, 21) {
				turned(t, p, func(q *api.Prog) { q.All[i].Exp = v })
				turned(t, p, func(q *api.Prog) { q.All[i].Kind = v })
				turned(t, p, func(q *api.Prog) { q.All[i] = api.Node{Kind: v} })
			}
			for _, v := range someNames() {
				turned(t, p, func(q *api.Prog) { q.All[i].Name = v })
				turned(t, p, func(q *api.Prog) { q.All[i] = ref(v) })
			}
			for _, v := range someNumbers() {
				turned(t, p, func(q *api.Prog) { q.All[i].Num = v })
				turned(t, p, func(q *api.Prog) { q.All[i] = api.Node{Kind: api.Const, Num: v} })
			}
		}
	}
}

func TestNodesLeftOutDoubledAndInPlaceOfOthers(t *testing.T) {
	for _, p := range bases() {
		for i := range p.All {
			turned(t, p, func(q *api.Prog) { q.All = slices.Delete(q.All, i, i+1) })
			turned(t, p, func(q *api.Prog) { q.All = slices.Insert(q.All, i, q.All[i]) })
			turned(t, p, func(q *api.Prog) { q.All = q.All[:i] })
			turned(t, p, func(q *api.Prog) { q.All = q.All[i:] })
			for j := range i {
				turned(t, p, func(q *api.Prog) { q.All[i], q.All[j] = q.All[j], q.All[i] })
			}
			for k, n := range []api.Node{ref("x"), constant("2"), two(api.Add, i-2, i-1), two(api.Mul, i-1, i-2), two(api.Sub, i-1, i-1), negative(i - 1), powered(i-1, 2), negative(i)} {
				turned(t, p, func(q *api.Prog) { q.All[i] = n })
				turned(t, p, func(q *api.Prog) { q.All = slices.Insert(q.All, i, n) })
				turned(t, p, func(q *api.Prog) {
					q.All = slices.Insert(q.All, i, n)
					q.Lets[len(q.Lets)-1].Root++
				})
				if k < 2 {
					turned(t, p, func(q *api.Prog) { q.All = append(q.All, n) })
				}
			}
		}
	}
}

func TestEachNameTurned(t *testing.T) {
	for _, p := range bases() {
		for _, v := range someNames() {
			for i := range p.Ins {
				turned(t, p, func(q *api.Prog) { q.Ins[i] = v })
			}
			for i := range p.Outs {
				turned(t, p, func(q *api.Prog) { q.Outs[i] = v })
			}
			for i := range p.Lets {
				turned(t, p, func(q *api.Prog) { q.Lets[i].Name = v })
			}
			turned(t, p, func(q *api.Prog) { q.Ins = append(q.Ins, v) })
			turned(t, p, func(q *api.Prog) { q.Outs = append(q.Outs, v) })
		}
		turned(t, p, func(q *api.Prog) { q.Ins = nil })
		turned(t, p, func(q *api.Prog) { q.Outs = nil })
		turned(t, p, func(q *api.Prog) { q.Lets = nil })
		turned(t, p, func(q *api.Prog) { q.All = nil })
	}
}

func TestEachRootTurned(t *testing.T) {
	for _, p := range bases() {
		for i := range p.Lets {
			for _, v := range someInts(len(p.All)) {
				turned(t, p, func(q *api.Prog) { q.Lets[i].Root = v })
			}
			for j := range i {
				turned(t, p, func(q *api.Prog) { q.Lets[i].Root = q.Lets[j].Root })
				turned(t, p, func(q *api.Prog) { q.Lets[j].Root = q.Lets[i].Root })
				turned(t, p, func(q *api.Prog) { q.Lets[i].Root, q.Lets[j].Root = q.Lets[j].Root, q.Lets[i].Root })
			}
			turned(t, p, func(q *api.Prog) { q.Lets = slices.Delete(q.Lets, i, i+1) })
			turned(t, p, func(q *api.Prog) { q.Lets = slices.Insert(q.Lets, i, q.Lets[i]) })
			turned(t, p, func(q *api.Prog) { q.Lets = append(q.Lets, api.Let{Name: "z", Root: len(q.All)}) })
			turned(t, p, func(q *api.Prog) { q.Lets = append(q.Lets, api.Let{Name: "z", Root: len(q.All) - 1}) })
		}
		turned(t, p, func(q *api.Prog) { q.Lets = append(q.Lets, api.Let{Name: "z"}) })
	}
}

func TestWhatIsNotRight(t *testing.T) {
	x, y, sum := ref("x"), ref("y"), two(api.Add, 0, 1)
	for _, all := range [][]api.Node{
		{x, y}, {x, y, x}, {sum}, {x, sum}, {negative(0)}, {negative(-1)}, {x, negative(1)}, {x, negative(2)}, {x, y, negative(0)}, {x, negative(0), negative(0)}, {x, y, two(api.Add, 1, 0)}, {x, y, two(api.Add, 0, 0)}, {x, y, two(api.Add, 1, 1)}, {x, y, two(api.Add, 0, 2)}, {x, y, two(api.Add, 2, 1)}, {x, y, two(api.Add, -1, 1)}, {x, y, two(api.Add, 0, -1)}, {x, y, two(api.Add, 0, 3)}, {x, two(api.Add, 0, 0)}, {x, y, sum, sum}, {x, y, sum, x}, {x, sum, y}, {x, y, x, sum, two(api.Add, 3, 2)}, {x, y, x, two(api.Add, 0, 1), two(api.Add, 3, 2)},
		{{Kind: -1}}, {{Kind: 8}}, {x, {Kind: -1, A: 0}}, {x, {Kind: 8}}, {x, y, {Kind: 8, A: 0, B: 1}}, {x, y, {Kind: -2, A: 0, B: 1}}, {{Kind: api.Const, Name: "x", Num: rat("1")}}, {{Name: "x", Num: rat("1")}}, {x, {Kind: api.Neg, Exp: 1}}, {x, {Kind: api.Neg, B: 1}}, {x, {Kind: api.Pow, B: 1}}, {x, {Kind: api.Pow, Name: "x"}}, {x, y, {Kind: api.Add, B: 1, Exp: 1}}, {x, y, {Kind: api.Mul, B: 1, Num: api.Rat{Neg: true}}}, {{Name: "x", A: 1}}, {{Name: "x", B: -1}}, {{Name: "x", Exp: 1}},
		{x, powered(0, 21)}, {x, powered(0, -21)}, {{}}, {ref("in")}, {ref("1")}, {ref("x y")}, {{Kind: api.Const}}, {constant("-1")}, {constant("-2|3")}, {constant(digits(41))}, {constant("1|" + digits(41))}, {{Kind: api.Const, Num: api.Rat{Num: []uint32{2}, Den: []uint32{2}}}},
	} {
		right(t, one(all), false)
	}
	for _, all := range [][]api.Node{
		{x}, {constant("0")}, {constant("2|3")}, {constant(digits(40))}, {constant("1|" + digits(40))}, {x, y, sum}, {x, negative(0)}, {x, powered(0, 20)}, {x, powered(0, -20)}, {x, powered(0, 0)}, {x, y, x, two(api.Div, 1, 2), two(api.Add, 0, 3)}, {x, y, sum, x, two(api.Sub, 2, 3)},
	} {
		right(t, one(all), true)
	}
}

func TestRightOfAsMuchAsMayBeAndOneMore(t *testing.T) {
	heaped := func(nodes int) api.Prog {
		p := one([]api.Node{ref("x")})
		for len(p.All) < nodes {
			at := len(p.All)
			p.All = append(p.All, ref("x"))
			p.Lets = append(p.Lets, api.Let{Name: "b", Root: at})
			for range min(10, nodes-at-1) {
				p.All = append(p.All, negative(len(p.All)-1))
			}
			p.Lets[len(p.Lets)-1].Root = len(p.All) - 1
		}
		return p
	}
	for _, n := range []int{1, 2, 399, 400, 401, 402} {
		right(t, heaped(n), n <= 400)
	}
	for _, n := range []int{1, 59, 60, 61, 62} {
		p := one([]api.Node{ref("x")})
		q := one([]api.Node{ref("x")})
		r := one([]api.Node{ref("x")})
		for i := range n - 1 {
			p.All = append(p.All, negative(i))
			q.All = append(q.All, powered(i, 1))
			r.All = append(r.All, ref("x"), two(api.Mul, 2*i, 2*i+1))
		}
		for _, x := range []api.Prog{p, q, r} {
			x.Lets[0].Root = len(x.All) - 1
			right(t, x, n <= 60)
		}
	}
	for _, n := range []int{1, 39, 40, 41, 42} {
		p := one([]api.Node{ref("x")})
		p.Ins = slices.Repeat([]string{"x"}, n)
		right(t, p, n <= 40)
		p.Outs = slices.Repeat([]string{"y"}, 41)
		right(t, p, false)
		q := api.Prog{Ins: []string{"x"}, Outs: []string{"a"}}
		for i := range n {
			q.All = append(q.All, ref("x"))
			q.Lets = append(q.Lets, api.Let{Name: "a", Root: i})
		}
		right(t, q, n <= 40)
		q.Lets, q.All, q.Outs = nil, nil, slices.Repeat([]string{"y"}, n)
		right(t, q, n <= 40)
	}
}

func TestVeryLongLists(t *testing.T) {
	million := 1 << 18
	words := slices.Repeat([]uint32{7}, million)
	for _, p := range []api.Prog{
		{Ins: slices.Repeat([]string{"x"}, million), Outs: []string{"x"}},
		{Ins: []string{"x"}, Outs: slices.Repeat([]string{"x"}, million)},
		{Ins: []string{strings.Repeat("x", million)}, Outs: []string{"x"}},
		{Ins: []string{"x"}, Lets: slices.Repeat([]api.Let{{Name: "a"}}, million), Outs: []string{"x"}, All: []api.Node{ref("x")}},
		one(slices.Repeat([]api.Node{ref("x")}, million)),
		one([]api.Node{{Kind: api.Const, Num: api.Rat{Num: words, Den: []uint32{1}}}}),
		one([]api.Node{{Kind: api.Const, Num: api.Rat{Num: []uint32{1}, Den: words}}}),
		one([]api.Node{{Kind: api.Const, Num: api.Rat{Num: words, Den: words}}}),
		one([]api.Node{{Name: "x", Num: api.Rat{Num: words, Den: words}}}),
	} {
		if !rightly(p, false) {
			t.Error("one of the very long ones is right")
		}
	}
}

// R3

func TestWithAnErrorNoProgramAndWithoutOneNoPlace(t *testing.T) {
	for _, s := range []string{"", "in x, y; let a = x + 1; let b = 2|3; out b; 1", "in x, y; let a = x", "in x; $", let(nested("-", "", 60)), "in " + xs(41) + "; let a = 1; out x;", strings.Repeat(" ", 60001)} {
		p, at, e := Parse(s)
		if p.Ins != nil || p.Lets != nil || p.Outs != nil || p.All != nil || at.Line < 1 || at.Col < 1 || e == api.OK {
			t.Errorf("%q: %v, %v, %v", brief(s), p, at, e)
		}
	}
	for _, s := range programs() {
		if _, at, e := Parse(s); at != (api.Place{}) || e != api.OK {
			t.Errorf("%q: %v, %v", s, at, e)
		}
	}
}

// R5, R6

// spoil writes over all the memory that a program has, also what lies behind its lists' ends.
func spoil(p api.Prog) {
	for _, n := range p.All {
		for _, list := range [][]uint32{n.Num.Num, n.Num.Den} {
			list = list[:cap(list)]
			for i := range list {
				list[i] = 0xdead
			}
		}
	}
	for _, list := range [][]string{p.Ins[:cap(p.Ins)], p.Outs[:cap(p.Outs)]} {
		for i := range list {
			list[i] = "spoilt"
		}
	}
	lets, all := p.Lets[:cap(p.Lets)], p.All[:cap(p.All)]
	for i := range lets {
		lets[i] = api.Let{Name: "spoilt", Root: -7}
	}
	for i := range all {
		all[i] = api.Node{Kind: -7}
	}
}

func TestWhatIsHandedInStaysAsItWas(t *testing.T) {
	for _, p := range bases() {
		for change := range 4 {
			q := copied(p)
			q.Ins, q.Outs = append(q.Ins, "behind")[:len(q.Ins)], append(q.Outs, "behind")[:len(q.Outs)]
			q.Lets, q.All = append(q.Lets, api.Let{Name: "behind"})[:len(q.Lets)], append(q.All, ref("behind"))[:len(q.All)]
			switch {
			case change == 1:
				q.Ins[0] = "in"
			case change == 2 && len(q.All) > 1:
				q.All[len(q.All)-1].A = 7
			case change == 3 && len(q.Lets) > 0:
				q.Lets[0].Root = -1
			}
			was := copied(q)
			Right(q)
			for _, h := range [][]int{Heights(q), Heights(q)} {
				for i := range h {
					h[i] = -1
				}
			}
			if !same(q, was) || q.Ins[:len(q.Ins)+1][len(q.Ins)] != "behind" || q.Outs[:len(q.Outs)+1][len(q.Outs)] != "behind" || q.Lets[:len(q.Lets)+1][len(q.Lets)].Name != "behind" || q.All[:len(q.All)+1][len(q.All)].Name != "behind" {
				t.Errorf("%v became %v", was, q)
			}
		}
	}
}

func TestAnswersAreMemoryOfTheirOwn(t *testing.T) {
	for _, s := range programs() {
		first, _, _ := Parse(s)
		second, _, _ := Parse(s)
		was := copied(second)
		heights := Heights(first)
		again := Heights(first)
		spoil(first)
		third, _, _ := Parse(s)
		if !same(second, was) || !same(third, was) {
			t.Errorf("%q: %v became %v and %v", s, was, second, third)
		}
		if !slices.Equal(heights, allHeights(second.All)) {
			t.Errorf("%q: %v", s, heights)
		}
		for i := range heights {
			heights[i] = -1
		}
		if !slices.Equal(again, allHeights(second.All)) {
			t.Errorf("%q: %v", s, again)
		}
	}
}

func TestTheListsOfAnAnswerShareNoMemory(t *testing.T) {
	p, _, _ := Parse("in x, y, z; let a = 2|3 * 2|3 - 5 + 5; let b = 0 + 0; out x, y, z;")
	was := copied(p)
	look := func(changed string) {
		if !same(p, was) {
			t.Errorf("with %s changed: %v", changed, p)
		}
	}
	_ = append(p.Ins, "q", "q", "q")
	_ = append(p.Outs, "q", "q", "q")
	look("what is behind names")
	for i := range p.All {
		keep := p.All[i].Num
		for _, list := range [][]uint32{keep.Num, keep.Den} {
			whole := list[:cap(list)]
			before := slices.Clone(whole)
			for j := range whole {
				whole[j] = 0xdead
			}
			for j := range p.All {
				for k, other := range [][]uint32{p.All[j].Num.Num, p.All[j].Num.Den} {
					if len(list) > 0 && len(other) > 0 && &list[0] == &other[0] {
						continue
					}
					if !slices.Equal(other, [][]uint32{was.All[j].Num.Num, was.All[j].Num.Den}[k]) {
						t.Errorf("the numbers of the nodes %d and %d share memory", i, j)
					}
				}
			}
			copy(whole, before)
		}
	}
	look("numbers")
	for i := range p.Ins {
		p.Ins[i] = "q"
	}
	p.Ins = slices.Clone(was.Ins)
	look("inputs")
}

func TestWhatWasAskedAheadChangesNothing(t *testing.T) {
	all := append(programs(), "", "in x", "in x; let a = ((x; out a;", let(nested("-", "", 60)), "in x; let a = x^21; out a;", "$", let(balanced(300)))
	for _, a := range all {
		for _, b := range all {
			want := parsed(b)
			p, _, _ := Parse(a)
			Right(p)
			Heights(p)
			if !agrees(b, want) {
				t.Errorf("%q behind %q", brief(b), brief(a))
			}
		}
	}
}
