package tree

import (
	"math/big"
	"regexp"
	"slices"
	"strconv"
	"strings"
	"testing"

	"talweg/api"
	"talweg/lex"
	"talweg/sign"
)

// Here is, by other means than the package's, what Parse, Right and Heights must tell: the forms are a table, by which all beginnings of a program's text are followed at once; nodes are made by looking for the sign that is done last; a program is right if a text of it is read as it.

// forms are the document's, without such as are nothing: what stands in < > is a form, a word in capitals one of many tokens, all else a token.
var forms = []struct {
	name string
	is   string
}{
	{"<program>", "in <names> ; out <names> ;"},
	{"<program>", "in <names> ; <lets> out <names> ;"},
	{"<names>", "NAME"},
	{"<names>", "<names> , NAME"},
	{"<lets>", "let NAME = <sum> ;"},
	{"<lets>", "<lets> let NAME = <sum> ;"},
	{"<sum>", "<product>"},
	{"<sum>", "<sum> + <product>"},
	{"<sum>", "<sum> - <product>"},
	{"<product>", "<factor>"},
	{"<product>", "<product> * <factor>"},
	{"<product>", "<product> / <factor>"},
	{"<factor>", "- <factor>"},
	{"<factor>", "<power>"},
	{"<power>", "<atom>"},
	{"<power>", "<atom> ^ EXPONENT"},
	{"<power>", "<atom> ^ - EXPONENT"},
	{"<atom>", "NUMBER"},
	{"<atom>", "NAME"},
	{"<atom>", "( <sum> )"},
}

// parted are the forms' words.
var parted = func() (list [][]string) {
	for _, f := range forms {
		list = append(list, strings.Fields(f.is))
	}
	return list
}()

var (
	names     = regexp.MustCompile(`^[a-zA-Z_\x{80}-\x{fffc}\x{fffe}-\x{10ffff}][a-zA-Z_0-9\x{80}-\x{fffc}\x{fffe}-\x{10ffff}]*\z`)
	numbers   = regexp.MustCompile(`^[0-9]+(\|[0-9]+)?\z`)
	exponents = regexp.MustCompile(`^([0-9]|1[0-9]|20)\z`)
)

// suits tells whether a token is what a form's word asks for.
func suits(word, token string) bool {
	switch word {
	case "NAME":
		return names.MatchString(token) && token != "in" && token != "let" && token != "out"
	case "NUMBER":
		return numbers.MatchString(token)
	case "EXPONENT":
		return exponents.MatchString(token)
	}
	return word == token
}

// track is a form that was begun at a token, and how many of its words are behind.
type track struct{ form, done, from int }

// stages are the tracks ahead of each token, and behind the last one.
type stages [][]track

// closed are with some tracks all that come of them: forms that one of them asks for next, and those that go on where a form ends.
func (s stages) closed(list []track) []track {
	at := len(s)
	seen := map[track]bool{}
	var all []track
	more := func(x track) {
		if !seen[x] {
			seen[x] = true
			all = append(all, x)
		}
	}
	for _, x := range list {
		more(x)
	}
	for i := 0; i < len(all); i++ {
		x := all[i]
		if x.done < len(parted[x.form]) {
			for form := range forms {
				if forms[form].name == parted[x.form][x.done] {
					more(track{form, 0, at})
				}
			}
			continue
		}
		for _, y := range s[x.from] {
			if y.done < len(parted[y.form]) && parted[y.form][y.done] == forms[x.form].name {
				more(track{y.form, y.done + 1, y.from})
			}
		}
	}
	return all
}

// begun are the stages ahead of all tokens.
func begun() stages { return stages{stages{}.closed([]track{{0, 0, 0}, {1, 0, 0}})} }

// behind are the tracks behind one token more; there are none, if with it there is no beginning.
func (s stages) behind(token string) []track {
	var list []track
	for _, x := range s[len(s)-1] {
		if x.done < len(parted[x.form]) && suits(parted[x.form][x.done], token) {
			list = append(list, track{x.form, x.done + 1, x.from})
		}
	}
	return s.closed(list)
}

// ended tells whether what is behind is a program's text.
func (s stages) ended() bool {
	return slices.ContainsFunc(s[len(s)-1], func(x track) bool {
		return forms[x.form].name == "<program>" && x.from == 0 && x.done == len(parted[x.form])
	})
}

// wrong is the first token with which there is no beginning; how many there are, if all are one, but no program; -1, if they are a program.
func wrong(tokens []string) int {
	s := begun()
	for i, token := range tokens {
		more := s.behind(token)
		if len(more) == 0 {
			return i
		}
		s = append(s, more)
	}
	if s.ended() {
		return -1
	}
	return len(tokens)
}

// loose is where the last of some signs stands that has all of a list's brackets shut about it, and something ahead; -1, if there is none.
func loose(list []string, signs string) int {
	depth := 0
	for i := len(list) - 1; i > 0; i-- {
		switch list[i] {
		case ")":
			depth++
		case "(":
			depth--
		}
		if depth == 0 && len(list[i]) == 1 && strings.Contains(signs, list[i]) && (list[i-1] == ")" || names.MatchString(list[i-1]) || numbers.MatchString(list[i-1])) {
			return i
		}
	}
	return -1
}

// build has a program that is being made of tokens that are one.
type build struct{ api.Prog }

// expression makes the nodes of a sum, and tells the last one's number.
func (b *build) expression(list []string) int {
	for _, signs := range []string{"+-", "*/"} {
		if at := loose(list, signs); at > 0 {
			kind := map[string]int{"+": 2, "-": 3, "*": 4, "/": 5}[list[at]]
			first := b.expression(list[:at])
			second := b.expression(list[at+1:])
			return b.node(api.Node{Kind: kind, A: first, B: second})
		}
	}
	if list[0] == "-" {
		return b.node(api.Node{Kind: 6, A: b.expression(list[1:])})
	}
	if at := loose(list, "^"); at > 0 {
		first := b.expression(list[:at])
		exp, _ := strconv.Atoi(strings.Join(list[at+1:], ""))
		return b.node(api.Node{Kind: 7, A: first, Exp: exp})
	}
	switch {
	case list[0] == "(":
		return b.expression(list[1 : len(list)-1])
	case numbers.MatchString(list[0]):
		return b.node(api.Node{Kind: 1, Num: rat(list[0])})
	}
	return b.node(api.Node{Kind: 0, Name: list[0]})
}

// node lays one behind all others.
func (b *build) node(n api.Node) int {
	b.All = append(b.All, n)
	return len(b.All) - 1
}

// built is the program of tokens that are one.
func built(tokens []string) api.Prog {
	b := &build{}
	for from := 0; from < len(tokens); {
		end := from + slices.Index(tokens[from:], ";")
		part := tokens[from:end]
		switch part[0] {
		case "in":
			b.Ins = commas(part[1:])
		case "out":
			b.Outs = commas(part[1:])
		default:
			b.Lets = append(b.Lets, api.Let{Name: part[1], Root: b.expression(part[3:])})
		}
		from = end + 1
	}
	return b.Prog
}

// commas are the names between commas.
func commas(list []string) []string {
	return slices.DeleteFunc(slices.Clone(list), func(s string) bool { return s == "," })
}

// rat is a number's Rat, in lowest terms.
func rat(s string) api.Rat {
	n, ok := new(big.Rat).SetString(strings.Replace(s, "|", "/", 1))
	if !ok {
		panic(s)
	}
	return api.Rat{Neg: n.Sign() < 0, Num: words(n.Num()), Den: words(n.Denom())}
}

// words are a number's, the lowest one first.
func words(n *big.Int) []uint32 {
	var list []uint32
	for rest := new(big.Int).Abs(n); rest.Sign() > 0; rest.Rsh(rest, 32) {
		list = append(list, uint32(rest.Uint64()))
	}
	return list
}

// natural is what words say.
func natural(list []uint32) *big.Int {
	n := new(big.Int)
	for _, w := range slices.Backward(list) {
		n.Lsh(n, 32).Or(n, new(big.Int).SetUint64(uint64(w)))
	}
	return n
}

// height is a node's, of a list in which each one is a part of one other at most.
func height(all []api.Node, i int) int {
	switch n := all[i]; n.Kind {
	case 0, 1:
		return 1
	case 6, 7:
		return 1 + height(all, n.A)
	default:
		return 1 + max(height(all, n.A), height(all, n.B))
	}
}

// allHeights are all nodes'.
func allHeights(all []api.Node) []int {
	list := make([]int, len(all))
	for i := range all {
		list[i] = height(all, i)
	}
	return list
}

// tooMuch tells whether a program has more than there may be.
func tooMuch(p api.Prog) bool {
	if len(p.All) > 400 || len(p.Ins) > 40 || len(p.Lets) > 40 || len(p.Outs) > 40 {
		return true
	}
	return slices.ContainsFunc(allHeights(p.All), func(h int) bool { return h > 60 })
}

// answer is what Parse tells.
type answer struct {
	p  api.Prog
	at api.Place
	e  api.Errno
}

// parsed is what it must tell.
func parsed(s string) answer {
	tokens, at, e := lex.Lex(s)
	if e != api.OK {
		return answer{at: at, e: e}
	}
	var list []string
	for _, x := range tokens {
		list = append(list, x.Text)
	}
	switch at := wrong(list); {
	case at == len(list):
		return answer{at: sign.Place(s, len(s)), e: api.ErrSyntax}
	case at >= 0:
		return answer{at: tokens[at].At, e: api.ErrSyntax}
	}
	p := built(list)
	if tooMuch(p) {
		return answer{at: api.Place{Line: 1, Col: 1}, e: api.ErrLong}
	}
	return answer{p: p}
}

// sameNode tells whether two nodes have the same in each field.
func sameNode(a, b api.Node) bool {
	return a.Kind == b.Kind && a.A == b.A && a.B == b.B && a.Exp == b.Exp && a.Name == b.Name &&
		a.Num.Neg == b.Num.Neg && slices.Equal(a.Num.Num, b.Num.Num) && slices.Equal(a.Num.Den, b.Num.Den)
}

// same tells whether two programs have the same in each field.
func same(p, q api.Prog) bool {
	return slices.Equal(p.Ins, q.Ins) && slices.Equal(p.Outs, q.Outs) && slices.Equal(p.Lets, q.Lets) && slices.EqualFunc(p.All, q.All, sameNode)
}

// brief is a text as it is told where a test fails.
func brief(s string) string { return s[:min(len(s), 200)] }

// agrees tells whether Parse tells an answer.
func agrees(s string, want answer) bool {
	p, at, e := Parse(s)
	return e == want.e && at == want.at && same(p, want.p)
}

// hold looks whether Parse tells an answer; a program that it tells must be right, with heights as they must be.
func hold(t *testing.T, s string, want answer) {
	t.Helper()
	p, at, e := Parse(s)
	if e != want.e || at != want.at {
		t.Errorf("%q (%d bytes): %v at %v, not %v at %v", brief(s), len(s), e, at, want.e, want.at)
	}
	if !same(p, want.p) {
		t.Errorf("%q (%d bytes): %v, not %v", brief(s), len(s), p, want.p)
	}
	if e == api.OK && (!Right(p) || !slices.Equal(Heights(p), allHeights(p.All))) {
		t.Errorf("%q: %t, %v", brief(s), Right(p), Heights(p))
	}
}

// look looks whether Parse tells what it must.
func look(t *testing.T, s string) {
	t.Helper()
	hold(t, s, parsed(s))
}

// fails looks whether Parse tells an error at a place, and no program.
func fails(t *testing.T, s string, e api.Errno, line, col int) {
	t.Helper()
	at := api.Place{Line: line, Col: col}
	hold(t, s, answer{at: at, e: e})
	if want := parsed(s); want.e != e || want.at != at {
		t.Errorf("%q: the forms tell %v at %v", brief(s), want.e, want.at)
	}
}

// fine looks whether Parse tells a program, as it must, and tells it, too.
func fine(t *testing.T, s string) api.Prog {
	t.Helper()
	look(t, s)
	p, _, e := Parse(s)
	if e != api.OK {
		t.Errorf("%q: %v", brief(s), e)
	}
	return p
}

// let is a program with one expression.
func let(expression string) string { return "in x; let a = " + expression + "; out a;" }

// bracketed is a node's text with brackets round all that is made of others; none, if it takes more than a number of nodes, or one that isn't there.
func bracketed(all []api.Node, i int, left *int) string {
	*left--
	if *left < 0 || i < 0 || i >= len(all) {
		return "?"
	}
	n := all[i]
	part := func(i int) string { return bracketed(all, i, left) }
	switch n.Kind {
	case 0:
		return n.Name
	case 1:
		return told(n.Num)
	case 2, 3, 4, 5:
		return "(" + part(n.A) + string("??+-*/"[n.Kind]) + part(n.B) + ")"
	case 6:
		return "(-" + part(n.A) + ")"
	case 7:
		return "(" + part(n.A) + "^" + strconv.Itoa(n.Exp) + ")"
	}
	return "?"
}

// told is a number as it is, in lowest terms or not; of ill lists something that isn't read as one.
func told(a api.Rat) string {
	s := natural(a.Num).String()
	if den := natural(a.Den).String(); den != "1" {
		s += "|" + den
	}
	if a.Neg {
		s = "-" + s
	}
	return s
}

// texted is a program's text, of whatever fields.
func texted(p api.Prog) string {
	s := "in " + strings.Join(p.Ins, ",") + ";"
	left := len(p.All)
	for _, l := range p.Lets {
		s += "let " + l.Name + "=" + bracketed(p.All, l.Root, &left) + ";"
	}
	return s + "out " + strings.Join(p.Outs, ",") + ";"
}

// isRight tells whether there is a text that is read as a program. If any is, so is the one with all brackets.
func isRight(p api.Prog) bool {
	read := parsed(texted(p))
	return read.e == api.OK && same(read.p, p)
}
