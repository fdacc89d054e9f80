package tree

import (
	"strconv"

	"talweg/api"
	"talweg/ratio"
	"talweg/sign"
)

// How tightly signs bind, the loosest first.
const (
	sums = iota
	products
	factors
)

// reader makes a program of tokens. Where it can't go on, it stands ahead of the token that is in the way.
type reader struct {
	left  []api.Token // what isn't read yet
	made  api.Prog
	stack []any // what was read of a sum, and isn't in place yet: nodes, signs, and brackets that are not shut
}

// node is one's number.
type node int

// waiting is a sign that waits for what is behind it: which kind of node it makes, and how tightly it binds.
type waiting struct{ kind, bind int }

// bracket is one that waits for its end.
type bracket struct{}

// program reads all of it.
func (r *reader) program() bool {
	return r.pass("in") && r.names(&r.made.Ins) && r.lets() && r.pass("out") && r.names(&r.made.Outs) && len(r.left) == 0
}

// names reads a list of them, and its end.
func (r *reader) names(list *[]string) bool {
	for {
		name, ok := r.name()
		if !ok {
			return false
		}
		*list = append(*list, name)
		if !r.pass(",") {
			return r.pass(";")
		}
	}
}

// lets reads all of them.
func (r *reader) lets() bool {
	for r.pass("let") {
		if !r.let() {
			return false
		}
	}
	return true
}

// let reads what is behind the word.
func (r *reader) let() bool {
	name, ok := r.name()
	if !ok || !r.pass("=") {
		return false
	}
	root, ok := r.sum()
	if !ok {
		return false
	}
	r.made.Lets = append(r.made.Lets, api.Let{Name: name, Root: int(root)})
	return r.pass(";")
}

// name reads one.
func (r *reader) name() (string, bool) {
	name := r.next().Text
	if !sign.Name(name) {
		return "", false
	}
	r.skip()
	return name, true
}

// sum reads one, and tells its last node. Brackets and signs may be as deep as a text is long, so that they lie in the stack, and no call is made of each.
func (r *reader) sum() (node, bool) {
	for {
		last, read := r.take()
		if !read {
			if !r.begin() {
				return 0, false
			}
			continue
		}
		if s, more := between(r.next().Text); more {
			r.skip()
			r.push(r.settled(last, s.bind))
			r.push(s)
			continue
		}
		last = r.settled(last, sums)
		if len(r.stack) == 0 {
			return last, true
		}
		if !r.shut(last) {
			return 0, false
		}
	}
}

// begin reads what a factor begins with.
func (r *reader) begin() bool {
	switch next := r.next(); {
	case r.pass("-"):
		r.push(waiting{api.Neg, factors})
		return true
	case r.pass("("):
		r.push(bracket{})
		return true
	case next.Kind == api.Number:
		// What lex takes for a number is one that ratio reads.
		n, _ := ratio.Parse(next.Text)
		r.skip()
		return r.power(r.add(api.Node{Kind: api.Const, Num: n}))
	}
	name, ok := r.name()
	return ok && r.power(r.add(api.Node{Kind: api.Ref, Name: name}))
}

// shut reads the end of the bracket that lies on top.
func (r *reader) shut(last node) bool {
	if !r.pass(")") {
		return false
	}
	r.drop()
	return r.power(last)
}

// power reads what is behind an atom, if it is taken to a power.
func (r *reader) power(atom node) bool {
	if r.pass("^") {
		exp, ok := r.exponent()
		if !ok {
			return false
		}
		atom = r.add(api.Node{Kind: api.Pow, A: int(atom), Exp: exp})
	}
	r.push(atom)
	return true
}

// exponent reads one.
func (r *reader) exponent() (int, bool) {
	below := r.pass("-")
	exp, err := strconv.Atoi(r.next().Text)
	if err != nil || exp > MaxExp {
		return 0, false
	}
	r.skip()
	if below {
		exp = -exp
	}
	return exp, true
}

// settled is what becomes of a node by all signs ahead of it that bind as tightly as is said, or more so.
func (r *reader) settled(last node, bind int) node {
	for {
		s, waits := r.top().(waiting)
		if !waits || s.bind < bind {
			return last
		}
		r.drop()
		if ahead, two := r.take(); two {
			last = r.add(api.Node{Kind: s.kind, A: int(ahead), B: int(last)})
		} else {
			last = r.add(api.Node{Kind: s.kind, A: int(last)})
		}
	}
}

// take takes what lies on top, if it is a node.
func (r *reader) take() (node, bool) {
	last, ok := r.top().(node)
	if ok {
		r.drop()
	}
	return last, ok
}

// top is what lies there; nothing, if the stack is empty.
func (r *reader) top() any {
	if len(r.stack) == 0 {
		return nil
	}
	return r.stack[len(r.stack)-1]
}

// drop leaves what lies on top.
func (r *reader) drop() { r.stack = r.stack[:len(r.stack)-1] }

// push lays something on top.
func (r *reader) push(x any) { r.stack = append(r.stack, x) }

// add makes a node behind all others, and tells its number.
func (r *reader) add(n api.Node) node {
	r.made.All = append(r.made.All, n)
	return node(len(r.made.All) - 1)
}

// between is what a sign between two parts waits for.
func between(text string) (waiting, bool) {
	switch text {
	case "+":
		return waiting{api.Add, sums}, true
	case "-":
		return waiting{api.Sub, sums}, true
	case "*":
		return waiting{api.Mul, products}, true
	case "/":
		return waiting{api.Div, products}, true
	}
	return waiting{}, false
}

// next is the token that comes next; behind all of them one without a text.
func (r *reader) next() api.Token {
	if len(r.left) == 0 {
		return api.Token{}
	}
	return r.left[0]
}

// skip goes behind the token that comes next.
func (r *reader) skip() { r.left = r.left[1:] }

// pass goes behind the token that comes next, if it has that text.
func (r *reader) pass(text string) bool {
	if r.next().Text != text {
		return false
	}
	r.skip()
	return true
}

// place is where the reader stands in its text.
func (r *reader) place(s string) api.Place {
	if len(r.left) == 0 {
		return sign.Place(s, len(s))
	}
	return r.left[0].At
}
