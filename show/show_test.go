package show

import (
	"fmt"
	"math"
	"slices"
	"strconv"
	"strings"
	"testing"

	"talweg/api"
	"talweg/lex"
	"talweg/tree"
)

// leaves are terms of one node.
func leaves() []*term { return []*term{ref("x"), constant("2|3")} }

// above are all terms of one node more than some have, of these.
func above(parts []*term) []*term {
	var list []*term
	for _, a := range parts {
		list = append(list, negative(a), powered(a, 2), powered(a, -1))
		for kind := api.Add; kind <= api.Div; kind++ {
			for _, b := range parts {
				list = append(list, two(kind, a, b))
			}
		}
	}
	return list
}

// low are all terms of a height of 3 at most, of two leaves and two powers.
func low() []*term {
	second := append(leaves(), above(leaves())...)
	return append(leaves(), above(second)...)
}

// ofEachKind are terms, with each kind on top.
func ofEachKind() []*term {
	x := ref("x")
	return []*term{x, constant("2"), constant("2|3"), two(api.Add, x, constant("1")), two(api.Sub, x, constant("1")), two(api.Mul, x, constant("1")), two(api.Div, x, constant("1")), negative(x), powered(x, 2), powered(x, -2)}
}

// names are so many of so many bytes each, no two the same.
func names(n, size int) []string {
	list := make([]string, n)
	for i := range list {
		end := strconv.Itoa(i)
		list[i] = strings.Repeat("n", size-len(end)) + end
	}
	return list
}

// digits are as many as are asked for, the first one not 0.
func digits(n int) string { return strings.Repeat("1234567890", n/10+1)[:n] }

// long is a number in lowest terms, with as many digits above, and below, as may be.
func long() string { return strings.Repeat("9", 40) + "|1" + strings.Repeat("0", 39) }

// plans are some of all kinds.
func plans() []plan {
	x, y, a := ref("x"), ref("y"), ref("a")
	list := []plan{
		{ins: []string{"x"}, outs: []string{"x"}},
		{ins: []string{"x", "y"}, outs: []string{"y", "x", "y"}},
		{ins: []string{"x"}, names: []string{"a"}, roots: []*term{x}, outs: []string{"a"}},
		{ins: []string{"x"}, names: []string{"a"}, roots: []*term{constant("0")}, outs: []string{"a"}},
		{ins: []string{"x"}, names: []string{"a", "b"}, roots: []*term{x, a}, outs: []string{"b"}},
		{ins: []string{"x", "y"}, names: []string{"a", "b"}, roots: []*term{two(api.Mul, x, y), two(api.Add, powered(a, 2), x)}, outs: []string{"b"}},
		{ins: []string{"x", "x"}, names: []string{"x", "x"}, roots: []*term{x, ref("z")}, outs: []string{"q", "q"}},
		{ins: []string{"\u00e9", "\u4e2d1"}, names: []string{"\U0001f600"}, roots: []*term{two(api.Div, ref("\u00e9"), ref("\u4e2d1"))}, outs: []string{"\U0001f600"}},
		{ins: names(40, 40), names: names(40, 40), roots: x.often(40), outs: names(40, 40)},
		of(two(api.Sub, powered(two(api.Mul, constant("2"), x), 2), two(api.Sub, constant("1"), x))),
		of(two(api.Div, negative(powered(negative(two(api.Mul, constant("2|3"), x)), 3)), two(api.Add, constant("4"), negative(negative(y))))),
	}
	for _, x := range ofEachKind() {
		list = append(list, of(x))
	}
	return list
}

// bases are right programs with nodes of each kind.
func bases() []api.Prog {
	x := ref("x")
	return []api.Prog{
		of(x).prog(), of(constant("2|3")).prog(), of(two(api.Add, x, constant("7"))).prog(), of(negative(x)).prog(), of(powered(x, -2)).prog(),
		of(two(api.Div, powered(two(api.Mul, constant("2"), x), 2), two(api.Sub, constant("1"), negative(x)))).prog(),
		{Ins: []string{"x"}, Outs: []string{"x"}},
		plan{ins: []string{"x", "y"}, names: []string{"a", "b"}, roots: []*term{two(api.Mul, x, ref("y")), two(api.Add, powered(ref("a"), 2), x)}, outs: []string{"b", "a"}}.prog(),
	}
}

// P12.1

func TestTheExample(t *testing.T) {
	p := read(t, "in x; let a=(2*x)^2-(1-x); out a;")
	if lines := strings.Split(Print(p), "\n"); len(lines) != 4 || lines[1] != "let a = (2 * x)^2 - (1 - x);" {
		t.Errorf("%q", lines)
	}
}

func TestNodesOfEachKind(t *testing.T) {
	for _, x := range [][2]string{
		{"x", "x"}, {"0", "0"}, {"7", "7"}, {"4|6", "2|3"}, {"6|3", "2"}, {"x+1", "x + 1"}, {"x-1", "x - 1"}, {"2|3*x", "2|3 * x"}, {"x/2", "x / 2"}, {"-x", "-x"}, {"- 5", "-5"}, {"x^2", "x^2"}, {"x ^ - 2", "x^-2"}, {"2|3^2", "2|3^2"},
	} {
		shown(t, x[0], x[1])
		shown(t, "("+x[0]+")", x[1])
		shown(t, " ( (\n"+x[0]+"\t) ) ", x[1])
	}
}

func TestEachKindAsAAndAsBOfEach(t *testing.T) {
	// Each kind as A and B of sums, differences, products and quotients, as A of a Neg, and of a Pow.
	for _, x := range []struct{ kind, part, first, second string }{
		{"+", "x", "x + y", "y + x"}, {"+", "2", "2 + y", "y + 2"}, {"+", "2|3", "2|3 + y", "y + 2|3"}, {"+", "x+1", "x + 1 + y", "y + (x + 1)"}, {"+", "x-1", "x - 1 + y", "y + (x - 1)"}, {"+", "x*1", "x * 1 + y", "y + x * 1"}, {"+", "x/1", "x / 1 + y", "y + x / 1"}, {"+", "-x", "-x + y", "y + -x"}, {"+", "x^2", "x^2 + y", "y + x^2"},
		{"-", "x", "x - y", "y - x"}, {"-", "2", "2 - y", "y - 2"}, {"-", "2|3", "2|3 - y", "y - 2|3"}, {"-", "x+1", "x + 1 - y", "y - (x + 1)"}, {"-", "x-1", "x - 1 - y", "y - (x - 1)"}, {"-", "x*1", "x * 1 - y", "y - x * 1"}, {"-", "x/1", "x / 1 - y", "y - x / 1"}, {"-", "-x", "-x - y", "y - -x"}, {"-", "x^2", "x^2 - y", "y - x^2"},
		{"*", "x", "x * y", "y * x"}, {"*", "2", "2 * y", "y * 2"}, {"*", "2|3", "2|3 * y", "y * 2|3"}, {"*", "x+1", "(x + 1) * y", "y * (x + 1)"}, {"*", "x-1", "(x - 1) * y", "y * (x - 1)"}, {"*", "x*1", "x * 1 * y", "y * (x * 1)"}, {"*", "x/1", "x / 1 * y", "y * (x / 1)"}, {"*", "-x", "-x * y", "y * -x"}, {"*", "x^2", "x^2 * y", "y * x^2"},
		{"/", "x", "x / y", "y / x"}, {"/", "2", "2 / y", "y / 2"}, {"/", "2|3", "2|3 / y", "y / 2|3"}, {"/", "x+1", "(x + 1) / y", "y / (x + 1)"}, {"/", "x-1", "(x - 1) / y", "y / (x - 1)"}, {"/", "x*1", "x * 1 / y", "y / (x * 1)"}, {"/", "x/1", "x / 1 / y", "y / (x / 1)"}, {"/", "-x", "-x / y", "y / -x"}, {"/", "x^2", "x^2 / y", "y / x^2"},
	} {
		shown(t, "("+x.part+")"+x.kind+"y", x.first)
		shown(t, "y"+x.kind+"("+x.part+")", x.second)
	}
	for _, x := range [][3]string{
		{"x", "-x", "x^2"}, {"2", "-2", "2^2"}, {"2|3", "-2|3", "2|3^2"}, {"x+1", "-(x + 1)", "(x + 1)^2"}, {"x-1", "-(x - 1)", "(x - 1)^2"}, {"x*1", "-(x * 1)", "(x * 1)^2"}, {"x/1", "-(x / 1)", "(x / 1)^2"}, {"-x", "--x", "(-x)^2"}, {"x^3", "-x^3", "(x^3)^2"},
	} {
		shown(t, "-("+x[0]+")", x[1])
		shown(t, "("+x[0]+")^2", x[2])
	}
}

func TestEachKindAsAAndAsBMadeOfNodes(t *testing.T) {
	for _, x := range ofEachKind() {
		look(t, of(x))
		look(t, of(negative(x)))
		look(t, of(powered(x, 2)))
		for _, y := range ofEachKind() {
			for kind := api.Add; kind <= api.Div; kind++ {
				look(t, of(two(kind, x, y)))
				look(t, of(negative(two(kind, x, y))))
				look(t, of(powered(two(kind, x, y), -2)))
			}
		}
	}
}

func TestBracketsWithinBrackets(t *testing.T) {
	for _, x := range [][2]string{
		{"((x + 1) + 2) + 3", "x + 1 + 2 + 3"}, {"x + (1 + (2 + 3))", "x + (1 + (2 + 3))"}, {"(x - (1 - 2)) - (3 - 4)", "x - (1 - 2) - (3 - 4)"}, {"((x / 1) / 2) * 3", "x / 1 / 2 * 3"}, {"x / (1 / (2 * 3))", "x / (1 / (2 * 3))"},
		{"((x + 1) * 2) + 3", "(x + 1) * 2 + 3"}, {"(x * 1) + (2 * 3)", "x * 1 + 2 * 3"}, {"x + ((1 * 2) * 3)", "x + 1 * 2 * 3"}, {"x - ((1 * 2) + 3)", "x - (1 * 2 + 3)"}, {"(x + 1) * ((2 - 3) * 4)", "(x + 1) * ((2 - 3) * 4)"},
		{"-(-(-x))", "---x"}, {"-((-x) * 2)", "-(-x * 2)"}, {"(-(x * 2)) * 3", "-(x * 2) * 3"}, {"-(-(x + 1))", "--(x + 1)"}, {"x - (-(-1))", "x - --1"}, {"x * (-(1 * 2))", "x * -(1 * 2)"}, {"x * (-(-(1 + 2)))", "x * --(1 + 2)"}, {"(x * (-1)) * 2", "x * -1 * 2"}, {"(x - (-1)) - 2", "x - -1 - 2"},
		{"(x^2)^3", "(x^2)^3"}, {"((x^2)^3)^-4", "((x^2)^3)^-4"}, {"(-(x^2))^3", "(-x^2)^3"}, {"-((-x)^2)", "-(-x)^2"}, {"(-((-x)^2))^2", "(-(-x)^2)^2"}, {"((x + 1)^2) * 2", "(x + 1)^2 * 2"}, {"x / ((1 - x)^2)", "x / (1 - x)^2"}, {"((x)^2)/((2|3)^-2)", "x^2 / 2|3^-2"}, {"(1|2)/(3|4)", "1|2 / 3|4"}, {"(1|2/3|4)/5|6", "1|2 / 3|4 / 5|6"}, {"1|2/(3|4/5|6)", "1|2 / (3|4 / 5|6)"}, {"(1|2)^20", "1|2^20"},
	} {
		shown(t, x[0], x[1])
		shown(t, x[1], x[1])
	}
}

func TestEveryExponent(t *testing.T) {
	for exp := -20; exp <= 20; exp++ {
		s := strconv.Itoa(exp)
		look(t, of(powered(ref("x"), exp)))
		shown(t, "x ^ "+strings.Replace(s, "-", " - ", 1), "x^"+s)
		shown(t, "(2|3)^"+s+"*x", "2|3^"+s+" * x")
		shown(t, "(x^"+s+")^"+s, "(x^"+s+")^"+s)
	}
	for _, x := range [][2]string{{"x^0", "x^0"}, {"x^-0", "x^0"}, {"x^1", "x^1"}, {"x^-1", "x^-1"}, {"x^20", "x^20"}, {"x^-20", "x^-20"}} {
		shown(t, x[0], x[1])
	}
}

func TestNumbers(t *testing.T) {
	for _, s := range []string{"0", "1", "9", "10", "4294967295", "4294967296", "18446744073709551616", "1|2", "2|3", "1|4294967296", "4294967296|3", digits(40), "1|" + digits(40), long(), "1|" + strings.Repeat("9", 40)} {
		look(t, of(constant(s)))
		look(t, of(powered(constant(s), -3)))
		look(t, of(two(api.Div, constant(s), constant(s))))
		look(t, of(two(api.Sub, negative(constant(s)), constant(s))))
	}
}

func TestEachNodeOfAProgram(t *testing.T) {
	p := read(t, "in x; let a = 2 * x ^ -3; let b = -(a - 1|2); out a;")
	for i, want := range []string{"2", "x", "x^-3", "2 * x^-3", "a", "1|2", "a - 1|2", "-(a - 1|2)"} {
		if got := Expr(p, i); got != want {
			t.Errorf("node %d: %q, not %q", i, got, want)
		}
	}
	for _, p := range plans() {
		look(t, p)
	}
}

func TestNodesThatAreNotThere(t *testing.T) {
	programs := bases()
	for _, p := range plans() {
		programs = append(programs, p.prog())
	}
	for _, p := range programs {
		for _, i := range outside(len(p.All)) {
			if s := Expr(p, i); s != "" {
				t.Errorf("node %d of %d: %q", i, len(p.All), s)
			}
		}
	}
	p := read(t, "in x; out x;")
	if Expr(p, 0) != "" || Expr(p, -1) != "" || Expr(p, math.MinInt) != "" || Expr(p, math.MaxInt) != "" {
		t.Error("a program without a node has one")
	}
	p = read(t, let("x"))
	if Expr(p, 0) != "x" || Expr(p, 1) != "" || Expr(p, -1) != "" || Expr(p, 1<<32) != "" || Expr(p, -1<<32) != "" {
		t.Error("a program of one node has more, or less")
	}
}

// outside are numbers of nodes that so many nodes don't have.
func outside(n int) []int {
	return []int{math.MinInt, math.MinInt + 1, -1 << 32, -400, -2, -1, n, n + 1, n + 2, n + 400, 1<<32 + n, math.MaxInt - 1, math.MaxInt}
}

// P12.2

func TestWholePrograms(t *testing.T) {
	for _, x := range [][2]string{
		{"in x;out x;", "in x;\nout x;\n"},
		{"in x,y;out y,x,y;", "in x, y;\nout y, x, y;\n"},
		{"  in\tx\r\n;\n\nout\nx ; \n\n", "in x;\nout x;\n"},
		{"in x;let a=x;out a;", "in x;\nlet a = x;\nout a;\n"},
		{"in x;let a=2|4;out a;", "in x;\nlet a = 1|2;\nout a;\n"},
		{"in x, y; let a = x * y; let b = a^2 + x; out b;", "in x, y;\nlet a = x * y;\nlet b = a^2 + x;\nout b;\n"},
		{"in x;let a=((x));let b=-(a);let c=(b);out c,b,a;", "in x;\nlet a = x;\nlet b = -a;\nlet c = b;\nout c, b, a;\n"},
		{"in x; let a = 1 / (x - 3); out x;", "in x;\nlet a = 1 / (x - 3);\nout x;\n"},
		{"in x,x;let x=x;let x=z;out q,q;", "in x, x;\nlet x = x;\nlet x = z;\nout q, q;\n"},
		{"in inx,_1;let lets=outs;out in2,Let;", "in inx, _1;\nlet lets = outs;\nout in2, Let;\n"},
		{"in \u00e9,\u4e2d1;let \U0001f600=\u00e9/\u4e2d1*(\u00e9-\u03b1);out \U0001f600,\u00e9;", "in \u00e9, \u4e2d1;\nlet \U0001f600 = \u00e9 / \u4e2d1 * (\u00e9 - \u03b1);\nout \U0001f600, \u00e9;\n"},
	} {
		p := read(t, x[0])
		if got := Print(p); got != x[1] || !isRead(got, p) {
			t.Errorf("%q: %q, not %q", x[0], got, x[1])
		}
	}
}

func TestAsManyNamesAsMayBe(t *testing.T) {
	x := ref("x")
	for _, n := range []int{1, 2, 39, 40} {
		for _, size := range []int{3, 40} {
			many := names(n, size)
			look(t, plan{ins: many, outs: []string{"x"}})
			look(t, plan{ins: []string{"x"}, outs: many})
			look(t, plan{ins: []string{"x"}, names: many, roots: x.often(n), outs: []string{"x"}})
			look(t, plan{ins: many, names: many, roots: constant("2|3").often(n), outs: many})
		}
	}
	none(t, "41 inputs", plan{ins: names(41, 3), outs: []string{"x"}}.prog())
	none(t, "41 outputs", plan{ins: []string{"x"}, outs: names(41, 3)}.prog())
	none(t, "41 lets", plan{ins: []string{"x"}, names: names(41, 3), roots: x.often(41), outs: []string{"x"}}.prog())
}

// balanced is a sum of so many leaves, of as little height as may be.
func balanced(n int, leaf *term) *term {
	if n == 1 {
		return leaf
	}
	return two(api.Add, balanced(n/2, leaf), balanced(n-n/2, leaf))
}

func TestAsManyNodesAsMayBe(t *testing.T) {
	x := ref("x")
	for _, leaf := range []*term{x, constant(long()), ref(strings.Repeat("n", 40))} {
		look(t, of(balanced(200, leaf)))
		look(t, of(negative(balanced(200, leaf))))
		look(t, of(powered(balanced(200, leaf), -20)))
		none(t, "401 nodes", of(balanced(201, leaf)).prog())
		none(t, "401 nodes", of(negative(powered(balanced(200, leaf), 2))).prog())
	}
	tens := plan{ins: names(40, 40), names: names(40, 40), roots: balanced(5, negative(x)).often(28), outs: names(40, 40)}
	tens.roots = append(tens.roots, x.often(8)...)
	if n := len(tens.prog().All); n != 28*14+8 {
		t.Error(n)
	}
	tens.names = tens.names[:36]
	look(t, tens)
	tens.roots[35] = negative(x)
	none(t, "401 nodes in many lets", tens.prog())
}

func TestTheLongestTexts(t *testing.T) {
	p := plan{ins: names(40, 40), names: names(40, 40), roots: balanced(5, constant(long())).often(40), outs: names(40, 40)}
	for i := range p.roots {
		p.roots[i] = powered(p.roots[i], -20)
	}
	look(t, p)
	if s := Print(p.prog()); len(p.prog().All) != 400 || len(s) < 20000 || len(s) > lex.MaxSource {
		t.Error(len(p.prog().All), len(s))
	}
}

func TestAsHighAsMayBe(t *testing.T) {
	x := ref("x")
	for _, c := range []struct {
		up            func(a *term) *term
		ahead, behind string
		first         string // what the innermost one is within
	}{
		{func(a *term) *term { return negative(a) }, "-", "", "-x"},
		{func(a *term) *term { return powered(a, -3) }, "(", ")^-3", "x^-3"},
		{func(a *term) *term { return two(api.Add, a, x) }, "", " + x", "x + x"},
		{func(a *term) *term { return two(api.Sub, a, x) }, "", " - x", "x - x"},
		{func(a *term) *term { return two(api.Mul, a, x) }, "", " * x", "x * x"},
		{func(a *term) *term { return two(api.Div, a, x) }, "", " / x", "x / x"},
		{func(a *term) *term { return two(api.Add, x, a) }, "x + (", ")", "x + x"},
		{func(a *term) *term { return two(api.Sub, x, a) }, "x - (", ")", "x - x"},
		{func(a *term) *term { return two(api.Mul, x, a) }, "x * (", ")", "x * x"},
		{func(a *term) *term { return two(api.Div, x, a) }, "x / (", ")", "x / x"},
	} {
		high := x
		for range 59 {
			high = c.up(high)
		}
		look(t, of(high))
		p := of(high).prog()
		if h := tree.Heights(p); len(h) == 0 || h[len(h)-1] != tree.MaxDepth {
			t.Errorf("%q: %v", c.ahead+c.behind, h)
		}
		if got, want := Expr(p, len(p.All)-1), strings.Repeat(c.ahead, 58)+c.first+strings.Repeat(c.behind, 58); got != want {
			t.Errorf("%q, not %q", got, want)
		}
		none(t, "a height of 61", of(c.up(high)).prog())
	}
	mixed := x
	for i := range 59 {
		mixed = []*term{negative(mixed), powered(mixed, i%41-20), two(api.Sub, x, mixed), two(api.Mul, mixed, x)}[i%4]
	}
	look(t, of(mixed))
}

func TestLines(t *testing.T) {
	for _, p := range plans() {
		s := Print(p.prog())
		lines := strings.Split(s, "\n")
		if len(lines) != len(p.roots)+3 || lines[len(lines)-1] != "" || !strings.HasSuffix(s, ";\n") || strings.ContainsAny(s, "\r\t") {
			t.Errorf("%q", s)
			continue
		}
		for i, l := range lines[:len(lines)-1] {
			word := "let "
			if i == 0 {
				word = "in "
			} else if i == len(lines)-2 {
				word = "out "
			}
			if !strings.HasPrefix(l, word) || !strings.HasSuffix(l, ";") || strings.Count(l, ";") != 1 || strings.Contains(l, "  ") || strings.Contains(l, " ;") {
				t.Errorf("%q", l)
			}
		}
	}
}

// P12.1, P12.2: programs that aren't right

func TestProgramsOfNoField(t *testing.T) {
	x, a := []string{"x"}, []api.Let{{Name: "a"}}
	node := []api.Node{{Name: "y"}}
	for _, p := range []api.Prog{
		{}, {Ins: []string{}, Lets: []api.Let{}, Outs: []string{}, All: []api.Node{}}, {Ins: x}, {Outs: x}, {Ins: x, Lets: []api.Let{{}}, Outs: x}, {Ins: x, Outs: x, All: []api.Node{{}}}, {Ins: x, Outs: x, All: node}, {Ins: x, Lets: a, Outs: x}, {Ins: x, Lets: a, Outs: x, All: []api.Node{{}}}, {Lets: a, All: node}, {Ins: x, Lets: a, All: node}, {Lets: a, Outs: x, All: node},
	} {
		none(t, "a program without what it must have", p)
	}
}

func TestNamesThatAreNone(t *testing.T) {
	for _, s := range []string{"", "in", "let", "out", "1", "1x", "x y", " x", "x ", "x,y", "x;", "-x", "(x)", "x|", "\xff", "x\xff", "\ufffd", "x\n", strings.Repeat("n", 41), strings.Repeat("\u00e9", 21), "2|3"} {
		for _, p := range bases() {
			for i := range p.Ins {
				q := copied(p)
				q.Ins[i] = s
				none(t, "an input "+s, q)
			}
			for i := range p.Outs {
				q := copied(p)
				q.Outs[i] = s
				none(t, "an output "+s, q)
			}
			for i := range p.Lets {
				q := copied(p)
				q.Lets[i].Name = s
				none(t, "a let "+s, q)
			}
			for i := range p.All {
				if p.All[i].Kind == api.Ref {
					q := copied(p)
					q.All[i].Name = s
					none(t, "a Ref "+s, q)
				}
			}
		}
	}
}

func TestNodesThatAreNotAsTheyMustBe(t *testing.T) {
	x, y := api.Node{Name: "x"}, api.Node{Name: "y"}
	neg := func(a int) api.Node { return api.Node{Kind: api.Neg, A: a} }
	sum := func(a, b int) api.Node { return api.Node{Kind: api.Add, A: a, B: b} }
	pow := func(a, exp int) api.Node { return api.Node{Kind: api.Pow, A: a, Exp: exp} }
	one := api.Rat{Num: []uint32{1}, Den: []uint32{1}}
	for i, all := range [][]api.Node{
		// In an order, or a number, that no text tells.
		{}, {x, y}, {x, y, x}, {sum(0, 0)}, {neg(0)}, {neg(-1)}, {x, neg(1)}, {x, neg(2)}, {x, neg(math.MaxInt)}, {x, neg(math.MinInt)}, {x, y, neg(0)}, {x, neg(0), neg(0)}, {x, neg(2), neg(0)}, {x, y, sum(1, 0)}, {x, y, sum(0, 0)}, {x, y, sum(1, 1)}, {x, y, sum(0, 2)}, {x, y, sum(-1, 1)}, {x, y, sum(0, -1)}, {x, y, sum(0, 3)}, {x, sum(0, 0)}, {x, y, sum(0, 1), x}, {x, y, sum(0, 1), sum(0, 1)}, {x, y, x, sum(0, 1), sum(3, 2)}, {x, pow(1, 2)}, {x, y, pow(0, 2)},
		// Of no kind.
		{{Kind: -1}}, {{Kind: 8, Name: "x"}}, {x, {Kind: -1}}, {x, {Kind: 8}}, {x, y, {Kind: 8, B: 1}}, {x, y, {Kind: math.MaxInt, B: 1}}, {{Kind: math.MinInt}},
		// With fields that must be zero.
		{{Name: "x", A: 1}}, {{Name: "x", B: -1}}, {{Name: "x", Exp: 1}}, {{Name: "x", Num: one}}, {{Kind: api.Const, Name: "x", Num: one}}, {{Kind: api.Const, A: 1, Num: one}}, {{Kind: api.Const, Exp: 1, Num: one}}, {x, {Kind: api.Neg, Exp: 1}}, {x, {Kind: api.Neg, B: 1}}, {x, {Kind: api.Neg, Name: "x"}}, {x, {Kind: api.Pow, B: 1}}, {x, {Kind: api.Pow, Name: "x"}}, {x, {Kind: api.Pow, Num: one}}, {x, y, {Kind: api.Add, B: 1, Exp: 1}}, {x, y, {Kind: api.Mul, B: 1, Num: api.Rat{Neg: true}}}, {x, y, {Kind: api.Div, B: 1, Name: "x"}},
		// Exponents.
		{x, pow(0, 21)}, {x, pow(0, -21)}, {x, pow(0, math.MinInt)}, {x, pow(0, math.MaxInt)}, {x, pow(0, 1<<32)},
	} {
		none(t, "nodes "+strconv.Itoa(i), api.Prog{Ins: []string{"x"}, Lets: []api.Let{{Name: "a", Root: len(all) - 1}}, Outs: []string{"a"}, All: all})
	}
}

// badNumbers are such as no text's Const has.
func badNumbers() []api.Rat {
	one, ten := []uint32{1}, of(constant(digits(40))).prog().All[0].Num.Num
	above := []uint32{0, 0, 0, 0, 32} // 2^133, of 41 digits
	return []api.Rat{
		{}, {Num: one}, {Num: one, Den: []uint32{0}}, {Den: []uint32{2}}, {Neg: true, Den: one}, {Num: []uint32{0}, Den: one}, {Neg: true, Num: one, Den: one}, {Neg: true, Num: []uint32{2}, Den: []uint32{3}}, {Num: []uint32{4}, Den: []uint32{6}}, {Num: []uint32{3}, Den: []uint32{3}}, {Num: []uint32{2, 0}, Den: []uint32{3}}, {Num: []uint32{2}, Den: []uint32{3, 0}}, {Num: ten, Den: ten},
		{Num: above, Den: one}, {Num: one, Den: above}, {Num: above, Den: []uint32{3}}, {Num: slices.Repeat(one, 100), Den: one}, {Num: one, Den: slices.Repeat(one, 100)},
	}
}

func TestNumbersThatAreNotRight(t *testing.T) {
	for i, n := range badNumbers() {
		for _, p := range bases() {
			for j := range p.All {
				if p.All[j].Kind == api.Const {
					q := copied(p)
					q.All[j].Num = n
					none(t, "number "+strconv.Itoa(i), q)
				}
			}
		}
	}
}

func TestRootsThatAreNotRight(t *testing.T) {
	for _, p := range bases() {
		for i := range p.Lets {
			for _, root := range someInts(len(p.All)) {
				if root != p.Lets[i].Root {
					q := copied(p)
					q.Lets[i].Root = root
					none(t, "a root "+strconv.Itoa(root), q)
				}
			}
			q := copied(p)
			q.Lets = slices.Delete(q.Lets, i, i+1)
			none(t, "a let that isn't there", q)
			q = copied(p)
			q.Lets = slices.Insert(q.Lets, i, q.Lets[i])
			none(t, "a let that is there twice", q)
		}
		q := copied(p)
		q.Lets = append(q.Lets, api.Let{Name: "z", Root: len(q.All) - 1})
		none(t, "a let without nodes", q)
	}
}

func TestFieldsTurned(t *testing.T) {
	for _, p := range bases() {
		for i := range p.All {
			for _, v := range someInts(len(p.All)) {
				turned(t, p, func(q *api.Prog) { q.All[i].A = v })
				turned(t, p, func(q *api.Prog) { q.All[i].B = v })
				turned(t, p, func(q *api.Prog) { q.All[i].A, q.All[i].B = v, v })
			}
			for _, v := range append(someInts(10), -21, -20, -19, 19, 20, 21) {
				turned(t, p, func(q *api.Prog) { q.All[i].Exp = v })
				turned(t, p, func(q *api.Prog) { q.All[i].Kind = v })
			}
			for _, v := range append(badNumbers(), api.Rat{Den: []uint32{1}}, api.Rat{Num: []uint32{7}, Den: []uint32{5}}) {
				turned(t, p, func(q *api.Prog) { q.All[i].Num = v })
			}
			turned(t, p, func(q *api.Prog) { q.All = slices.Delete(q.All, i, i+1) })
			turned(t, p, func(q *api.Prog) { q.All = slices.Insert(q.All, i, q.All[i]) })
			turned(t, p, func(q *api.Prog) { q.All = q.All[:i] })
			for j := range i {
				turned(t, p, func(q *api.Prog) { q.All[i], q.All[j] = q.All[j], q.All[i] })
			}
		}
	}
}

func TestVeryLongLists(t *testing.T) {
	many := 1 << 18
	words := slices.Repeat([]uint32{7}, many)
	x := []string{"x"}
	for i, p := range []api.Prog{
		{Ins: slices.Repeat(x, many), Outs: x}, {Ins: x, Outs: slices.Repeat(x, many)}, {Ins: []string{strings.Repeat("x", many)}, Outs: x},
		{Ins: x, Lets: slices.Repeat([]api.Let{{Name: "a"}}, many), Outs: x, All: []api.Node{{Name: "x"}}},
		{Ins: x, Lets: []api.Let{{Name: "a", Root: many - 1}}, Outs: x, All: slices.Repeat([]api.Node{{Name: "x"}}, many)},
		{Ins: x, Lets: []api.Let{{Name: "a"}}, Outs: x, All: []api.Node{{Kind: api.Const, Num: api.Rat{Num: words, Den: words}}}},
	} {
		if tree.Right(p) || Print(p) != "" || Expr(p, 0) != "" || Expr(p, len(p.All)-1) != "" {
			t.Errorf("very long %d has a text", i)
		}
	}
}

// P12.3

// pairs are where brackets open and shut.
func pairs(s string) [][2]int {
	var list [][2]int
	var open []int
	for i := range len(s) {
		switch s[i] {
		case '(':
			open = append(open, i)
		case ')':
			list = append(list, [2]int{open[len(open)-1], i})
			open = open[:len(open)-1]
		}
	}
	return list
}

// needed looks whether no pair of a text's brackets may be missing.
func needed(t *testing.T, p api.Prog) {
	t.Helper()
	s := Print(p)
	for _, x := range pairs(s) {
		if less := s[:x[0]] + s[x[0]+1:x[1]] + s[x[1]+1:]; isRead(less, p) {
			t.Errorf("%q is %q without brackets that need not be", s, less)
		}
	}
}

func TestAllLowTerms(t *testing.T) {
	programs := map[string]api.Prog{}
	expressions := map[string]bool{}
	for _, x := range low() {
		p := of(x)
		look(t, p)
		q := p.prog()
		needed(t, q)
		s := Print(q)
		if other, is := programs[s]; is {
			t.Errorf("%v and %v: %q", other, q, s)
		}
		programs[s] = q
		expressions[Expr(q, len(q.All)-1)] = true
	}
	if n := 2 + 24*3 + 4*24*24; len(programs) != n || len(expressions) != n {
		t.Error(len(programs), len(expressions), n)
	}
}

func TestTermsWithoutAPattern(t *testing.T) {
	c := chance(5)
	for range 1500 {
		p := plan{ins: []string{"x", "y"}, outs: []string{"a"}}
		for i := range c.below(4) {
			p.names = append(p.names, "a"+strconv.Itoa(i))
			p.roots = append(p.roots, c.some(1+c.below(30)))
		}
		look(t, p)
		needed(t, p.prog())
	}
}

func TestProgramsThatDifferHaveTextsThatDiffer(t *testing.T) {
	programs := map[string]api.Prog{}
	add := func(p api.Prog) {
		s := Print(p)
		if other, is := programs[s]; is && !same(other, p) || s == "" {
			t.Errorf("%v and %v: %q", other, p, s)
		}
		programs[s] = p
	}
	for _, p := range plans() {
		add(p.prog())
	}
	for _, p := range bases() {
		add(p)
	}
	for _, s := range []string{"in x, y; out x;", "in x; out y, x;", "in x; out x, y;", "in xy; out x;", "in y, x; out x;", "in x; let a = x; out x;", "in x; let x = a; out x;", "in x; let a = x; let b = y; out x;", "in x; let b = y; let a = x; out x;", "in x; let a = 1|2; out x;", "in x; let a = 1/2; out x;", "in x; let a = 0; out x;", "in x; let a = -0; out x;", "in x; let a = x^1; out x;", "in x; let a = x^-1; out x;", "in x; let a = -x^1; out x;", "in x; let a = (-x)^1; out x;"} {
		add(read(t, s))
	}
	if len(programs) < 30 {
		t.Error(len(programs))
	}
}

func TestPrintedAgain(t *testing.T) {
	for _, p := range plans() {
		s := Print(p.prog())
		if again := Print(read(t, s)); again != s {
			t.Errorf("%q became %q", s, again)
		}
	}
}

// R4, R5, R6

func TestAnEmptyListIsANilOne(t *testing.T) {
	p := api.Prog{Ins: []string{"x"}, Lets: []api.Let{}, Outs: []string{"x"}, All: []api.Node{}}
	if s := Print(p); s != "in x;\nout x;\n" || Expr(p, 0) != "" {
		t.Errorf("%q", s)
	}
	p = api.Prog{Ins: []string{"x"}, Lets: []api.Let{{Name: "a", Root: 1}}, Outs: []string{"a"}, All: []api.Node{
		{Kind: api.Const, Num: api.Rat{Num: []uint32{}, Den: []uint32{1}}}, {Kind: api.Neg, Num: api.Rat{Num: []uint32{}, Den: []uint32{}}},
	}}
	if s := Print(p); s != "in x;\nlet a = -0;\nout a;\n" || Expr(p, 0) != "0" || Expr(p, 1) != "-0" {
		t.Errorf("%q", s)
	}
}

func TestWhatIsHandedInStaysAsItWas(t *testing.T) {
	for _, p := range bases() {
		for change := range 4 {
			q := copied(p)
			q.Ins, q.Outs = append(q.Ins, "behind")[:len(q.Ins)], append(q.Outs, "behind")[:len(q.Outs)]
			q.Lets, q.All = append(q.Lets, api.Let{Name: "behind"})[:len(q.Lets)], append(q.All, api.Node{Name: "behind"})[:len(q.All)]
			switch {
			case change == 1:
				q.Ins[0] = "in"
			case change == 2 && len(q.All) > 1:
				q.All[len(q.All)-1].A = 7
			case change == 3 && len(q.Lets) > 0:
				q.Lets[0].Root = -1
			}
			was := copied(q)
			Print(q)
			for i := -1; i <= len(q.All); i++ {
				Expr(q, i)
			}
			if !same(q, was) || q.Ins[:len(q.Ins)+1][len(q.Ins)] != "behind" || q.Outs[:len(q.Outs)+1][len(q.Outs)] != "behind" || q.Lets[:len(q.Lets)+1][len(q.Lets)].Name != "behind" || q.All[:len(q.All)+1][len(q.All)].Name != "behind" {
				t.Errorf("%v became %v", was, q)
			}
		}
	}
}

func TestAskedTwice(t *testing.T) {
	all := bases()
	for _, p := range plans() {
		all = append(all, p.prog())
	}
	all = append(all, api.Prog{}, api.Prog{Ins: []string{"x"}})
	told := func(p api.Prog) string {
		s := Print(p)
		for i := -1; i <= len(p.All); i++ {
			s += fmt.Sprintf("%d %q\n", i, Expr(p, i))
		}
		return s
	}
	var first []string
	for _, p := range all {
		first = append(first, told(p))
	}
	for i, p := range slices.Backward(all) {
		if s := told(p); s != first[i] || told(copied(p)) != first[i] {
			t.Errorf("%q became %q", first[i], s)
		}
	}
}

func TestATextStaysWhenTheProgramIsChanged(t *testing.T) {
	p := read(t, "in x, y; let a = 2|3 * x - y; out a;")
	text, node := Print(p), Expr(p, 0)
	p.Ins[0], p.Outs[0], p.Lets[0].Name = "q", "q", "q"
	p.All[0].Num.Num[0], p.All[1].Name = 7, "q"
	if text != "in x, y;\nlet a = 2|3 * x - y;\nout a;\n" || node != "2|3" {
		t.Errorf("%q, %q", text, node)
	}
	if s := Print(p); s != "in q, y;\nlet q = 7|3 * q - y;\nout q;\n" || Expr(p, 0) != "7|3" {
		t.Errorf("%q", s)
	}
}
