package show

import (
	"slices"
	"strconv"
	"strings"
	"testing"

	"talweg/api"
	"talweg/ratio"
	"talweg/tree"
)

// term is an expression as the tests make it: its own text, and its nodes, are told by other means than the package's.
type term struct {
	kind int
	name string // a Ref's
	num  string // a Const's, in lowest terms
	exp  int
	a, b *term
}

// kinds tells each kind by a letter: Ref, Const, Add, Sub, Mul, Div, Neg, Pow.
const kinds = "xn+-*/~^"

// bracketed are the kinds that stand in brackets, as A (the first text) and as B, of each kind: the document's words, spelt out.
var bracketed = map[string][2]string{
	"+": {"", "+-"},
	"-": {"", "+-"},
	"*": {"+-", "+-*/"},
	"/": {"+-", "+-*/"},
	"~": {"+-*/", ""},
	"^": {"+-*/~^", ""},
}

func ref(name string) *term          { return &term{kind: api.Ref, name: name} }
func constant(num string) *term      { return &term{kind: api.Const, num: num} }
func two(kind int, a, b *term) *term { return &term{kind: kind, a: a, b: b} }
func negative(a *term) *term         { return &term{kind: api.Neg, a: a} }
func powered(a *term, exp int) *term { return &term{kind: api.Pow, a: a, exp: exp} }

// letter tells a term's kind.
func (x *term) letter() string { return kinds[x.kind : x.kind+1] }

// often is a list of a term, again and again.
func (x *term) often(n int) []*term { return slices.Repeat([]*term{x}, n) }

// part is the text of A (0) or B (1).
func (x *term) part(y *term, side int) string {
	if strings.Contains(bracketed[x.letter()][side], y.letter()) {
		return "(" + y.text() + ")"
	}
	return y.text()
}

// text is what Expr must tell.
func (x *term) text() string {
	switch {
	case x.kind == api.Ref:
		return x.name
	case x.kind == api.Const:
		return x.num
	case x.kind == api.Neg:
		return "-" + x.part(x.a, 0)
	case x.kind == api.Pow:
		return x.part(x.a, 0) + "^" + strconv.Itoa(x.exp)
	}
	return x.part(x.a, 0) + " " + x.letter() + " " + x.part(x.b, 1)
}

// inner are the terms of a term's nodes, in order.
func (x *term) inner() []*term {
	var list []*term
	for _, y := range []*term{x.a, x.b} {
		if y != nil {
			list = append(list, y.inner()...)
		}
	}
	return append(list, x)
}

// lay makes a term's nodes behind others, and tells the last one's number.
func (x *term) lay(all *[]api.Node) int {
	n := api.Node{Kind: x.kind, Exp: x.exp, Name: x.name}
	if x.a != nil {
		n.A = x.a.lay(all)
	}
	if x.b != nil {
		n.B = x.b.lay(all)
	}
	if x.kind == api.Const {
		num, e := ratio.Parse(x.num)
		if e != api.OK {
			panic(x.num)
		}
		n.Num = num
	}
	*all = append(*all, n)
	return len(*all) - 1
}

// plan is a program as the tests make it.
type plan struct {
	ins   []string
	names []string
	roots []*term
	outs  []string
}

// of is a plan of one let.
func of(x *term) plan {
	return plan{ins: []string{"x", "y"}, names: []string{"a"}, roots: []*term{x}, outs: []string{"a"}}
}

// prog is the program.
func (p plan) prog() api.Prog {
	q := api.Prog{Ins: p.ins, Outs: p.outs}
	for i, x := range p.roots {
		q.Lets = append(q.Lets, api.Let{Name: p.names[i], Root: x.lay(&q.All)})
	}
	return q
}

// text is what Print must tell.
func (p plan) text() string {
	s := "in " + strings.Join(p.ins, ", ") + ";\n"
	for i, x := range p.roots {
		s += "let " + p.names[i] + " = " + x.text() + ";\n"
	}
	return s + "out " + strings.Join(p.outs, ", ") + ";\n"
}

// inner are the terms of all nodes.
func (p plan) inner() []*term {
	var list []*term
	for _, x := range p.roots {
		list = append(list, x.inner()...)
	}
	return list
}

// brief is a text as it is told where a test fails.
func brief(s string) string { return s[:min(len(s), 200)] }

// sameNode tells whether two nodes have the same in each field.
func sameNode(a, b api.Node) bool {
	return a.Kind == b.Kind && a.A == b.A && a.B == b.B && a.Exp == b.Exp && a.Name == b.Name &&
		a.Num.Neg == b.Num.Neg && slices.Equal(a.Num.Num, b.Num.Num) && slices.Equal(a.Num.Den, b.Num.Den)
}

// same tells whether two programs have the same in each field.
func same(p, q api.Prog) bool {
	return slices.Equal(p.Ins, q.Ins) && slices.Equal(p.Outs, q.Outs) && slices.Equal(p.Lets, q.Lets) && slices.EqualFunc(p.All, q.All, sameNode)
}

// copied is a program with lists of its own.
func copied(p api.Prog) api.Prog {
	q := api.Prog{Ins: slices.Clone(p.Ins), Lets: slices.Clone(p.Lets), Outs: slices.Clone(p.Outs), All: slices.Clone(p.All)}
	for i := range q.All {
		q.All[i].Num.Num = slices.Clone(q.All[i].Num.Num)
		q.All[i].Num.Den = slices.Clone(q.All[i].Num.Den)
	}
	return q
}

// read is a text's program.
func read(t *testing.T, s string) api.Prog {
	t.Helper()
	p, at, e := tree.Parse(s)
	if e != api.OK {
		t.Fatalf("%q: %v at %v", brief(s), e, at)
	}
	return p
}

// isRead tells whether a text is read as a program.
func isRead(s string, p api.Prog) bool {
	q, _, e := tree.Parse(s)
	return e == api.OK && same(p, q)
}

// let is a text with one expression.
func let(expression string) string { return "in x; let a = " + expression + "; out a;" }

// look looks whether a program's text, and its nodes', are as planned, and whether what is printed is read as it.
func look(t *testing.T, p plan) {
	t.Helper()
	q, want := p.prog(), p.text()
	if got := Print(q); got != want {
		t.Errorf("%q, not %q", brief(got), brief(want))
	}
	if !isRead(want, q) {
		t.Errorf("%q isn't read as what it is printed of", brief(want))
	}
	for i, x := range p.inner() {
		if got := Expr(q, i); got != x.text() {
			t.Errorf("node %d of %q: %q, not %q", i, brief(want), brief(got), brief(x.text()))
		}
	}
}

// shown looks whether a text's program, and its last let, have the texts that are written out.
func shown(t *testing.T, s, expression string) {
	t.Helper()
	p := read(t, let(s))
	if got := Expr(p, len(p.All)-1); got != expression {
		t.Errorf("%q: %q, not %q", brief(s), brief(got), brief(expression))
	}
	if got := Print(p); got != "in x;\nlet a = "+expression+";\nout a;\n" {
		t.Errorf("%q: %q", brief(s), brief(got))
	}
}

// someInts are about a list's ends, and far from these.
func someInts(n int) []int {
	list := outside(n)
	for i := range n {
		list = append(list, i)
	}
	return list
}

// none looks whether a program that isn't right has no text, and none of its nodes one.
func none(t *testing.T, why string, p api.Prog) {
	t.Helper()
	if tree.Right(p) {
		t.Errorf("%s: it is right", why)
	}
	if s := Print(p); s != "" {
		t.Errorf("%s: %q", why, brief(s))
	}
	for _, i := range someInts(min(len(p.All), 500)) {
		if s := Expr(p, i); s != "" {
			t.Errorf("%s: node %d is %q", why, i, brief(s))
		}
	}
}

// turned looks at a program with something changed: it has a text just if it is right, and then one that is read as it.
func turned(t *testing.T, p api.Prog, change func(q *api.Prog)) {
	t.Helper()
	q := copied(p)
	change(&q)
	if !tree.Right(q) {
		none(t, "turned", q)
		return
	}
	if s := Print(q); !isRead(s, q) {
		t.Errorf("%v: %q", q, s)
	}
	for i := range q.All {
		if Expr(q, i) == "" {
			t.Errorf("%v: node %d has no text", q, i)
		}
	}
}

// chance tells numbers without a pattern that counts.
type chance uint32

func (c *chance) below(n int) int {
	*c = *c*1664525 + 1013904223
	return int(uint32(*c)>>8) % n
}

// some is a term of so many nodes at most.
func (c *chance) some(most int) *term {
	switch {
	case most < 3 && (most < 2 || c.below(2) == 0):
		if c.below(2) == 0 {
			return ref(string(rune('p' + c.below(9))))
		}
		n := api.Rat{Num: []uint32{uint32(c.below(50))}, Den: []uint32{uint32(1 + c.below(20))}}
		return constant(ratio.Print(n))
	case most >= 3 && c.below(6) < 4:
		one := c.below(most-2) + 1
		return two(api.Add+c.below(4), c.some(one), c.some(most-1-one))
	case c.below(2) == 0:
		return negative(c.some(most - 1))
	}
	return powered(c.some(most-1), c.below(41)-20)
}
