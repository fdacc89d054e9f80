package scope

import (
	"math"
	"slices"
	"strconv"
	"strings"
	"testing"

	"talweg/api"
	"talweg/tree"
)

// numbered are so many names, of a letter and a number.
func numbered(letter string, n int) []string {
	list := make([]string, n)
	for i := range list {
		list[i] = letter + strconv.Itoa(i)
	}
	return list
}

// balanced is a sum of some parts that is no higher than it must be.
func balanced(parts []string) string {
	if len(parts) == 1 {
		return parts[0]
	}
	half := len(parts) / 2
	return "(" + balanced(parts[:half]) + "+" + balanced(parts[half:]) + ")"
}

// text is a program's, of names and of expressions.
func text(ins, lets, expressions, outs []string) string {
	s := "in " + strings.Join(ins, ", ") + ";"
	for i, name := range lets {
		s += " let " + name + " = " + expressions[i] + ";"
	}
	return s + " out " + strings.Join(outs, ", ") + ";"
}

// inOrder are texts of programs that are in order.
func inOrder() []string {
	return []string{
		"in x; out x;", "in x, y; out y;", "in x, y; out y, x, y;",
		"in x; let a = x; out a;", "in x; let a = x; out x;", "in x; let a = 1; out a;", "in x; let a = 2|3; out x, a, x, a;",
		"in x; let a = x * x; let b = a + x; out b;", "in x; let a = x; let b = a; let c = b; out c;", "in x; let a = x; let b = x; let c = x; out a;",
		"in x, y; let a = x * y; let b = a^2 + x; out b;", "in x, y; let a = x; let b = a; let c = 1; out b, b;", "in y, x; let b = -x / y; let a = b - (b + 1)^-2; out y, a;",
		"in \u00e9, \u00c9, e; let \u00e8 = \u00e9 * \u00c9; let e\u0301 = \u00e8 + e; out e\u0301, \u00e9;", "in \u4e2d, \U0001f600; let \U0001f601 = \U0001f600^2; out \u4e2d, \U0001f601;",
		"in In, IN, let1; let Let = In * IN; let Out = Let; out Out, let1;",
	}
}

// wrongNames are texts of programs with a name that is wrong: the first one, and its error.
func wrongNames() []struct {
	s, name string
	e       api.Errno
} {
	return []struct {
		s, name string
		e       api.Errno
	}{
		// Inputs.
		{"in x, x; out x;", "x", api.ErrTwice}, {"in x, x, x; out x;", "x", api.ErrTwice}, {"in x, y, x; out x;", "x", api.ErrTwice}, {"in x, y, y, x; out x;", "y", api.ErrTwice}, {"in x, y, x, y; out x;", "x", api.ErrTwice}, {"in \u00e9, e, \u00e9; out e;", "\u00e9", api.ErrTwice}, {"in \u4e2d1, \u4e2d1; out \u4e2d1;", "\u4e2d1", api.ErrTwice},
		// A let that is named like an input, like an earlier one, or a later one.
		{"in x; let x = 1; out x;", "x", api.ErrTwice}, {"in x; let x = x; out x;", "x", api.ErrTwice}, {"in x, y; let a = x; let y = a; out y;", "y", api.ErrTwice}, {"in x; let a = 1; let a = 2; out a;", "a", api.ErrTwice}, {"in x; let a = x; let b = a; let a = b; out a;", "a", api.ErrTwice}, {"in x; let a = x; let a = a; out a;", "a", api.ErrTwice}, {"in x; let a = x; let b = a; let b = a; let a = x; out a;", "b", api.ErrTwice}, {"in x; let \u4e2d = x; let \u4e2d = x; out x;", "\u4e2d", api.ErrTwice},
		// A let that uses itself, or a later one.
		{"in x; let a = a; out a;", "a", api.ErrName}, {"in x; let a = x + a; out a;", "a", api.ErrName}, {"in x; let a = b; let b = x; out a;", "b", api.ErrName}, {"in x; let a = x; let b = c; let c = a; out b;", "c", api.ErrName}, {"in x; let a = x; let b = a * (x - b); out b;", "b", api.ErrName}, {"in x; let a = b; let b = a; out a;", "b", api.ErrName},
		// A Ref that isn't known: the first one of a let is told.
		{"in x; let a = y; out a;", "y", api.ErrName}, {"in x; let a = y + z; out a;", "y", api.ErrName}, {"in x; let a = z + y; out a;", "z", api.ErrName}, {"in x; let a = x * (1 - -z^2) + y; out a;", "z", api.ErrName}, {"in x; let a = x; let b = x * y / z; out a;", "y", api.ErrName}, {"in x; let a = x; let b = a; let c = a + x + b + d + e; out a;", "d", api.ErrName}, {"in e; let a = \u00e9; out a;", "\u00e9", api.ErrName}, {"in x; let a = X; out a;", "X", api.ErrName}, {"in xx; let a = x; out a;", "x", api.ErrName}, {"in x; let a = xx; out a;", "xx", api.ErrName}, {"in x; let a = e\u0301 + \u00e9; out a;", "e\u0301", api.ErrName},
		// The Refs come ahead of the let's own name, and that ahead of what is behind.
		{"in x; let x = y; out x;", "y", api.ErrName}, {"in x; let x = y + z; out x;", "y", api.ErrName}, {"in x; let a = x; let a = b; out a;", "b", api.ErrName}, {"in x; let a = x; let a = x; let b = y; out a;", "a", api.ErrTwice}, {"in x; let x = 1; let a = y; out a;", "x", api.ErrTwice}, {"in x; let a = y; let x = 1; out a;", "y", api.ErrName}, {"in x; let a = y; let b = z; out a;", "y", api.ErrName}, {"in x, y; let y = 1; let x = 1; out x;", "y", api.ErrTwice}, {"in x; let x = x + x * q; out x;", "q", api.ErrName},
		// Inputs come ahead of all else.
		{"in x, x; let a = y; out a;", "x", api.ErrTwice}, {"in x, y, y; let x = z; out q;", "y", api.ErrTwice}, {"in x, y, x; let q = w; out v;", "x", api.ErrTwice}, {"in x, x; let x = x; out x;", "x", api.ErrTwice}, {"in b, a, a, b; let b = a; out c;", "a", api.ErrTwice},
		// Outputs come last.
		{"in x; out y;", "y", api.ErrName}, {"in x; out x, y;", "y", api.ErrName}, {"in x; out y, z;", "y", api.ErrName}, {"in x; let a = x; out b;", "b", api.ErrName}, {"in x; let a = x; out a, x, b, c;", "b", api.ErrName}, {"in x; let a = x; out A;", "A", api.ErrName}, {"in x, x; out y;", "x", api.ErrTwice}, {"in x; let a = y; out z;", "y", api.ErrName}, {"in x; let x = x; out z;", "x", api.ErrTwice}, {"in x; let a = x; let a = x; out z;", "a", api.ErrTwice}, {"in x; let a = a; out z;", "a", api.ErrName}, {"in x; let a = x; out \u00e9;", "\u00e9", api.ErrName},
	}
}

// P13.1

func TestTheExample(t *testing.T) {
	says(t, "in x; let a = b; let b = x; out a;", "b", api.ErrName)
}

func TestProgramsInOrder(t *testing.T) {
	for _, s := range inOrder() {
		says(t, s, "", api.OK)
	}
}

func TestTheFirstNameThatIsWrong(t *testing.T) {
	for _, x := range wrongNames() {
		says(t, x.s, x.name, x.e)
	}
}

func TestOutputsMayBeThereTwiceAndBeInputsOrLets(t *testing.T) {
	for _, s := range []string{"in x; out x;", "in x; out x, x;", "in x; let a = x; out a, a, x, a, x;", "in x; let a = 1; let b = 2; out b, a, b;", "in x; let a = x; out x;"} {
		says(t, s, "", api.OK)
	}
}

func TestALetMayUseTheOneRightAhead(t *testing.T) {
	says(t, "in x; let a = x; let b = a; out b;", "", api.OK)
	lets := numbered("a", 40)
	says(t, text([]string{"x"}, lets, append([]string{"x"}, lets[:39]...), lets[39:]), "", api.OK)
	says(t, text([]string{"x"}, lets, append(lets[1:40:40], "x"), lets[39:]), "a1", api.ErrName)
}

func TestAsManyNamesAsMayBe(t *testing.T) {
	ins, lets := numbered("x", 40), numbered("a", 40)
	expressions := make([]string, 40)
	for i := range expressions {
		expressions[i] = balanced([]string{ins[i], ins[39-i], lets[max(0, i-1)]})
	}
	expressions[0] = ins[0]
	says(t, text(ins, lets, expressions, lets), "", api.OK)
	says(t, text(ins, nil, nil, ins), "", api.OK)
	for i := range 40 {
		for _, j := range []int{0, 7, 39} {
			if i == j {
				continue
			}
			some := slices.Clone(ins)
			some[i] = some[j]
			says(t, text(some, nil, nil, some[:1]), some[j], api.ErrTwice)
			some = slices.Clone(lets)
			some[i] = some[j]
			says(t, text(ins, some, ins, ins[:1]), some[j], api.ErrTwice)
		}
		some := slices.Clone(lets)
		some[i] = ins[39-i]
		says(t, text(ins, some, ins, ins[:1]), ins[39-i], api.ErrTwice)
		some = slices.Clone(lets)
		some[i] = "q"
		says(t, text(ins, lets, ins, some), "q", api.ErrName)
		says(t, text(ins, lets, some, lets), map[bool]string{true: "q", false: "a0"}[i == 0], api.ErrName)
	}
}

func TestAsManyNodesAsMayBe(t *testing.T) {
	parts := slices.Repeat([]string{"x", "y"}, 100)
	whole := func(parts []string) string {
		return text([]string{"x", "y"}, []string{"a", "b"}, []string{"x", balanced(parts)}, []string{"b"})
	}
	if n := len(read(t, whole(parts)).All); n != 400 {
		t.Error(n)
	}
	says(t, whole(parts), "", api.OK)
	for i := range parts {
		some := slices.Clone(parts)
		some[i] = "q"
		says(t, whole(some), "q", api.ErrName)
		some[199] = "z"
		says(t, whole(some), map[bool]string{true: "z", false: "q"}[i == 199], api.ErrName)
		some[0] = "b"
		says(t, whole(some), "b", api.ErrName)
	}
}

func TestEachPlaceOfARef(t *testing.T) {
	for _, s := range []string{"q", "-q", "q^2", "(q)", "q + x", "x + q", "1 - q", "q * 2", "x / q", "(x + 1) * -(2 - q^-3)", "-(-(-q))", "x * x * x * q", "q - (x - (x - x))"} {
		says(t, "in x; let a = "+s+"; out a;", "q", api.ErrName)
		says(t, "in x; let a = x; let b = "+s+"; out a;", "q", api.ErrName)
		says(t, "in q, x; let a = "+s+"; out a;", "", api.OK)
		says(t, "in x; let q = x + 1; let a = "+s+"; out a;", "", api.OK)
		says(t, "in x; let a = "+s+"; let q = x + 1; out a;", "q", api.ErrName)
		says(t, "in x; let q = "+s+"; out q;", "q", api.ErrName)
	}
}

func TestNamesThatLookAlikeDiffer(t *testing.T) {
	names := []string{"a", "A", "aa", "a1", "a01", "a_", "_a", "_", "\u00e1", "\u00c1", "a\u0301", "\u0430", "\u03b1", "\uff41", "In", "LET", "out1"}
	says(t, text(names, nil, nil, names), "", api.OK)
	for i, s := range names {
		rest := slices.Delete(slices.Clone(names), i, i+1)
		says(t, text(rest, []string{s}, []string{rest[0]}, names), "", api.OK)
		says(t, text(rest, []string{"q"}, []string{s}, rest), s, api.ErrName)
		says(t, text(rest, nil, nil, names), s, api.ErrName)
		says(t, text(append(rest, s, s), nil, nil, names), s, api.ErrTwice)
	}
	long := strings.Repeat("n", 39)
	says(t, text([]string{long + "1", long + "2", long}, nil, nil, []string{long + "2"}), "", api.OK)
	says(t, text([]string{long + "1", long}, nil, nil, []string{long + "2"}), long+"2", api.ErrName)
}

// ref, constant, two, negative and powered are nodes.
func ref(name string) api.Node { return api.Node{Kind: api.Ref, Name: name} }

func constant(num, den uint32) api.Node {
	return api.Node{Kind: api.Const, Num: api.Rat{Num: []uint32{num}, Den: []uint32{den}}}
}

func two(kind, a, b int) api.Node { return api.Node{Kind: kind, A: a, B: b} }

func negative(a int) api.Node { return api.Node{Kind: api.Neg, A: a} }

func powered(a, exp int) api.Node { return api.Node{Kind: api.Pow, A: a, Exp: exp} }

// one is a program of one let, in order if the nodes' names are.
func one(all ...api.Node) api.Prog {
	return api.Prog{Ins: []string{"x"}, Lets: []api.Let{{Name: "a", Root: len(all) - 1}}, Outs: []string{"a"}, All: all}
}

// words are so many 7s.
func words(n int) []uint32 { return slices.Repeat([]uint32{7}, n) }

// notRight are programs that aren't, for each of the reasons that there are.
func notRight() map[string]api.Prog {
	x := []string{"x"}
	many := func(n int) []string { return numbered("x", n) }
	sum := func(n int) []api.Node {
		all := []api.Node{ref("x")}
		for range n {
			all = append(all, negative(len(all)-1))
		}
		return all
	}
	list := map[string]api.Prog{
		"nothing": {}, "no input": {Outs: x}, "no output": {Ins: x}, "empty lists": {Ins: []string{}, Lets: []api.Let{}, Outs: []string{}, All: []api.Node{}}, "no input, and a let": {Lets: []api.Let{{Name: "a"}}, Outs: []string{"a"}, All: []api.Node{constant(1, 1)}},
		"41 inputs": {Ins: many(41), Outs: []string{"x0"}}, "41 outputs": {Ins: many(40), Outs: many(41)}, "many": {Ins: many(1000), Outs: many(1000)},
		"nodes without a let": {Ins: x, Outs: x, All: []api.Node{ref("x")}}, "a let without nodes": {Ins: x, Lets: []api.Let{{Name: "a"}}, Outs: x},
		"height 61": one(sum(60)...), "401 nodes": {}, "41 lets": {},
		"a node too many": one(ref("x"), ref("x")), "A as B": one(ref("x"), two(api.Add, 0, 0)), "a part that isn't there": one(ref("x"), two(api.Add, -1, 0)), "itself": one(negative(0)), "B ahead of A": one(ref("x"), ref("x"), two(api.Mul, 1, 0)), "a part behind": one(ref("x"), negative(2)),
		"a kind 8": one(api.Node{Kind: 8}), "a kind -1": one(api.Node{Kind: -1, Name: "x"}),
		"0|0": one(api.Node{Kind: api.Const}), "2|4": one(constant(2, 4)), "words 0": one(constant(0, 1)), "below 0": one(api.Node{Kind: api.Const, Num: api.Rat{Neg: true, Num: words(1), Den: []uint32{1}}}), "many digits": one(api.Node{Kind: api.Const, Num: api.Rat{Num: words(6), Den: []uint32{1}}}), "many digits below": one(api.Node{Kind: api.Const, Num: api.Rat{Num: []uint32{1}, Den: words(6)}}),
		"exp 21": one(ref("x"), powered(0, 21)), "exp -21": one(ref("x"), powered(0, -21)), "the lowest exp": one(ref("x"), powered(0, math.MinInt)),
		"a field too many": one(api.Node{Kind: api.Ref, Name: "x", A: 1}), "a number too many": one(api.Node{Kind: api.Ref, Name: "x", Num: api.Rat{Num: words(1), Den: words(1)}}), "a name too many": one(api.Node{Kind: api.Const, Name: "x", Num: constant(1, 1).Num}),
	}
	list["401 nodes"] = api.Prog{Ins: x, Lets: []api.Let{{Name: "a", Root: 400}}, Outs: x, All: append(slices.Repeat([]api.Node{ref("x")}, 400), negative(399))}
	lets := api.Prog{Ins: x, Outs: x}
	for i, name := range numbered("a", 41) {
		lets.Lets, lets.All = append(lets.Lets, api.Let{Name: name, Root: i}), append(lets.All, ref("x"))
	}
	list["41 lets"] = lets
	for _, s := range []string{"", "in", "let", "out", "1", "1x", "x y", " x", "x;", "x\n", "+", "\xff", "x\xff", "\ufffd", strings.Repeat("n", 41)} {
		list["input "+s] = api.Prog{Ins: []string{s}, Outs: x}
		list["output "+s] = api.Prog{Ins: x, Outs: []string{s}}
		list["second output "+s] = api.Prog{Ins: x, Outs: []string{"x", s}}
		list["second input "+s] = api.Prog{Ins: []string{"x", s}, Outs: x}
		list["ref "+s] = one(ref(s))
		list["let "+s] = api.Prog{Ins: x, Lets: []api.Let{{Name: s}}, Outs: x, All: []api.Node{ref("x")}}
	}
	for _, root := range []int{-1, 0, 2, math.MaxInt, math.MinInt} {
		p := one(ref("x"), negative(0))
		p.Lets[0].Root = root
		list["root "+strconv.Itoa(root)] = p
	}
	return list
}

func TestProgramsThatAreNotRight(t *testing.T) {
	for what, p := range notRight() {
		none(t, what, p)
		// Names that are wrong change nothing.
		q := copied(p)
		q.Ins = append(q.Ins, "x", "x")
		if !tree.Right(q) {
			none(t, what+", and inputs given twice", q)
		}
		q = copied(p)
		q.Outs = append(q.Outs, "unknown")
		if !tree.Right(q) {
			none(t, what+", and an output that isn't known", q)
		}
	}
}

func TestWhatIsRightWithOneFieldTurned(t *testing.T) {
	for _, s := range append(inOrder(), "in x, x; out x;", "in x; let a = b; let b = a; out c;") {
		p := read(t, s)
		for i := range p.All {
			for _, kind := range []int{-1, 0, 1, 2, 6, 7, 8} {
				q := copied(p)
				q.All[i].Kind = kind
				if tree.Right(q) {
					look(t, s, q)
				} else {
					none(t, s, q)
				}
			}
			q := copied(p)
			q.All = slices.Delete(q.All, i, i+1)
			none(t, s, q)
		}
		for i := range p.Lets {
			for _, root := range []int{-1, 0, p.Lets[i].Root - 1, p.Lets[i].Root + 1, len(p.All), math.MinInt, math.MaxInt} {
				q := copied(p)
				q.Lets[i].Root = root
				if tree.Right(q) {
					look(t, s, q)
				} else {
					none(t, s, q)
				}
			}
		}
	}
}

func TestVeryLongLists(t *testing.T) {
	many := 1 << 18
	x := []string{"x"}
	for i, p := range []api.Prog{
		{Ins: slices.Repeat(x, many), Outs: x}, {Ins: numbered("x", many), Outs: x}, {Ins: x, Outs: slices.Repeat(x, many)}, {Ins: []string{strings.Repeat("x", many)}, Outs: x},
		{Ins: x, Lets: slices.Repeat([]api.Let{{Name: "a"}}, many), Outs: x, All: []api.Node{{Name: "x"}}},
		{Ins: x, Lets: []api.Let{{Name: "a", Root: many - 1}}, Outs: x, All: slices.Repeat([]api.Node{{Name: "x"}}, many)},
		one(api.Node{Kind: api.Const, Num: api.Rat{Num: words(many), Den: words(many)}}),
	} {
		name, e := Check(p)
		let, at, ok := Where(p, "x")
		if name != "" || e != api.ErrArg || let || at != 0 || ok || len(Free(p)) != 0 {
			t.Errorf("very long %d: %q, %v, %t, %d, %t", i, brief(name), e, let, at, ok)
		}
	}
	p := read(t, "in x; let a = x; out a;")
	if let, at, ok := Where(p, strings.Repeat("x", many)); let || at != 0 || ok {
		t.Error(let, at, ok)
	}
}

// few are all programs of at most two lets of some names, with expressions of two Refs at most.
func few(f func(api.Prog)) {
	names := []string{"x", "a", "z"}
	var bodies [][]api.Node
	bodies = append(bodies, []api.Node{constant(2, 3)})
	for _, s := range names {
		bodies = append(bodies, []api.Node{ref(s)})
		for _, r := range names {
			bodies = append(bodies, []api.Node{ref(s), ref(r), two(api.Sub, 0, 1)})
		}
	}
	var outs [][]string
	for _, s := range names {
		outs = append(outs, []string{s})
		for _, r := range names {
			outs = append(outs, []string{s, r})
		}
	}
	var more func(p api.Prog, left int)
	more = func(p api.Prog, left int) {
		for _, list := range outs {
			p.Outs = list
			f(p)
		}
		if left == 0 {
			return
		}
		at := len(p.All)
		for _, body := range bodies {
			q := p
			q.All = slices.Clone(p.All)
			for _, n := range body {
				if n.Kind == api.Sub {
					n.A, n.B = n.A+at, n.B+at
				}
				q.All = append(q.All, n)
			}
			for _, s := range names {
				q.Lets = append(slices.Clone(p.Lets), api.Let{Name: s, Root: len(q.All) - 1})
				more(q, left-1)
			}
		}
	}
	for _, ins := range [][]string{{"x"}, {"x", "z"}, {"z", "x", "z"}} {
		more(api.Prog{Ins: ins}, 2)
	}
}

func TestAllProgramsOfFewNames(t *testing.T) {
	counts := map[api.Errno]int{}
	few(func(p api.Prog) {
		name, e := Check(p)
		counts[e]++
		if n, want := checked(p); name != n || e != want {
			t.Fatalf("%v: %q, %v, not %q, %v", p, name, e, n, want)
		}
		free := Free(p)
		if e != api.OK && len(free) > 0 || e == api.OK && !slices.Equal(free, unused(p)) {
			t.Fatalf("%v: %v are free", p, free)
		}
		let, i, ok := Where(p, "a")
		l, j, is := found(p, "a")
		if e == api.OK && (let != l || i != j || ok != is) || e != api.OK && (let || i != 0 || ok) {
			t.Fatalf("%v: a is %t, %d, %t", p, let, i, ok)
		}
	})
	if counts[api.OK] < 500 || counts[api.ErrName] < 5000 || counts[api.ErrTwice] < 5000 || len(counts) != 3 {
		t.Error(counts)
	}
}

// P13.2

func TestWhereEachNameIs(t *testing.T) {
	for _, x := range []struct {
		s, name string
		let     bool
		i       int
		ok      bool
	}{
		{"in x; out x;", "x", false, 0, true}, {"in x; out x;", "y", false, 0, false}, {"in x; out x;", "", false, 0, false}, {"in x; out x;", "in", false, 0, false}, {"in x; out x;", "X", false, 0, false}, {"in x; out x;", "xx", false, 0, false}, {"in x; out x;", "x ", false, 0, false}, {"in x; out x;", "\xff", false, 0, false},
		{"in x, y, z; let a = x; let b = 1; out b;", "x", false, 0, true}, {"in x, y, z; let a = x; let b = 1; out b;", "y", false, 1, true}, {"in x, y, z; let a = x; let b = 1; out b;", "z", false, 2, true}, {"in x, y, z; let a = x; let b = 1; out b;", "a", true, 0, true}, {"in x, y, z; let a = x; let b = 1; out b;", "b", true, 1, true}, {"in x, y, z; let a = x; let b = 1; out b;", "c", false, 0, false}, {"in x, y, z; let a = x * y * z; let b = 1; out b;", "b", true, 1, true},
		{"in \u00e9, e; let \u4e2d = e; out \u4e2d;", "\u00e9", false, 0, true}, {"in \u00e9, e; let \u4e2d = e; out \u4e2d;", "\u4e2d", true, 0, true}, {"in \u00e9, e; let \u4e2d = e; out \u4e2d;", "e\u0301", false, 0, false}, {"in \u00e9, e; let \u4e2d = e; out \u4e2d;", "\xe4\xb8", false, 0, false},
	} {
		if let, i, ok := Where(read(t, x.s), x.name); let != x.let || i != x.i || ok != x.ok {
			t.Errorf("%q of %q: %t, %d, %t", x.name, x.s, let, i, ok)
		}
	}
	for _, n := range []int{1, 2, 39, 40} {
		ins, lets := numbered("x", n), numbered("a", n)
		p := read(t, text(ins, lets, ins, lets))
		for i := range n {
			if let, at, ok := Where(p, ins[i]); let || at != i || !ok {
				t.Error(ins[i], let, at, ok)
			}
			if let, at, ok := Where(p, lets[i]); !let || at != i || !ok {
				t.Error(lets[i], let, at, ok)
			}
		}
		if let, at, ok := Where(p, ins[0]+"0"); let || at != 0 || ok {
			t.Error(let, at, ok)
		}
	}
}

func TestWhatIsNotInOrderHasNoNames(t *testing.T) {
	for _, x := range wrongNames() {
		p := read(t, x.s)
		for _, name := range asked(p) {
			if let, i, ok := Where(p, name); let || i != 0 || ok {
				t.Errorf("%q of %q: %t, %d, %t", name, x.s, let, i, ok)
			}
		}
		if l := Free(p); len(l) > 0 {
			t.Errorf("%q: %v are free", x.s, l)
		}
	}
}

// P13.3

func TestNamesThatNobodyUses(t *testing.T) {
	for _, x := range [][2]string{
		{"in x; out x;", ""}, {"in x, y; out y;", ""},
		{"in x; let a = x; out a;", ""}, {"in x; let a = x; out x;", "a"}, {"in x; let a = x; let b = x; out x;", "a b"}, {"in x; let b = x; let a = x; out x;", "b a"}, {"in x; let a = 1; let b = 2; let c = 3; out x, x;", "a b c"},
		{"in x; let a = x; let b = a; out x;", "b"}, {"in x; let a = x; let b = a; out b;", ""}, {"in x; let a = x; let b = a; let c = b; out x;", "c"}, {"in x; let a = x; let b = a; let c = a; out x;", "b c"}, {"in x; let a = x; let b = x; let c = a; out c;", "b"}, {"in x; let a = x; let b = x; let c = x; out a, c;", "b"}, {"in x; let a = x; let b = x; let c = x; out b;", "a c"},
		{"in x; let a = x; let b = a * a; out b, b;", ""}, {"in x; let a = x; let b = a; let c = a; out c, b, c;", ""}, {"in x; let a = x; out a, a;", ""}, {"in x; let a = x; let b = x * (1 - -a^2); out b;", ""}, {"in x; let a = x; let b = 1; let c = (a + 1) / -b; out x;", "c"},
		{"in x; let \u00e9 = x; let \u4e2d = \u00e9; let e = x; out x;", "\u4e2d e"},
	} {
		if got := strings.Join(Free(read(t, x[0])), " "); got != x[1] {
			t.Errorf("%q: %q are free, not %q", x[0], got, x[1])
		}
	}
	lets := numbered("a", 40)
	for i := range lets {
		p := read(t, text([]string{"x"}, lets, slices.Repeat([]string{"x"}, 40), lets[i:]))
		if got := Free(p); !slices.Equal(got, lets[:i]) {
			t.Error(i, got)
		}
	}
	if got := Free(read(t, text([]string{"x"}, lets, slices.Repeat([]string{"x"}, 40), []string{"x"}))); !slices.Equal(got, lets) {
		t.Error(got)
	}
}

// P13.4

// longer is a program with one let more, of some Refs.
func longer(p api.Prog, name string, refs ...string) api.Prog {
	q := copied(p)
	for i, s := range refs {
		q.All = append(q.All, ref(s))
		if i > 0 {
			q.All = append(q.All, two(api.Mul, len(q.All)-2, len(q.All)-1))
		}
	}
	q.Lets = append(q.Lets, api.Let{Name: name, Root: len(q.All) - 1})
	return q
}

func TestOneLetMore(t *testing.T) {
	for _, s := range inOrder() {
		p := read(t, s)
		var names []string
		for _, m := range mentions(p) {
			if m.gives {
				names = append(names, m.name)
			}
		}
		for _, a := range names {
			for _, b := range names {
				q := longer(p, "new", a, b)
				tell(t, s+" and a let", q, "", api.OK)
				if let, i, ok := Where(q, "new"); !let || i != len(p.Lets) || !ok {
					t.Errorf("%q: %t, %d, %t", s, let, i, ok)
				}
				if free := Free(q); len(free) == 0 || free[len(free)-1] != "new" {
					t.Errorf("%q: %v", s, free)
				}
				tell(t, s+" and a name that is known", longer(p, a, a, b), a, api.ErrTwice)
				tell(t, s+" and a Ref that isn't known", longer(p, "new", a, "q", b), "q", api.ErrName)
				tell(t, s+" and a let that uses itself", longer(p, "new", a, "new"), "new", api.ErrName)
			}
		}
	}
}

// R3, R4, R5, R6

func TestAnEmptyListIsANilOne(t *testing.T) {
	p := api.Prog{Ins: []string{"x"}, Lets: []api.Let{}, Outs: []string{"x"}, All: []api.Node{}}
	tell(t, "empty lists", p, "", api.OK)
	p.Lets, p.All = nil, nil
	tell(t, "nil lists", p, "", api.OK)
	p = one(api.Node{Kind: api.Const, Num: api.Rat{Num: []uint32{}, Den: []uint32{1}}}, api.Node{Kind: api.Neg, Num: api.Rat{Num: []uint32{}, Den: []uint32{}}})
	tell(t, "empty lists of words", p, "", api.OK)
}

// allPrograms are some that are in order, some that aren't, and some that aren't right.
func allPrograms(t *testing.T) []api.Prog {
	var list []api.Prog
	for _, s := range inOrder() {
		list = append(list, read(t, s))
	}
	for _, x := range wrongNames() {
		list = append(list, read(t, x.s))
	}
	return append(list, api.Prog{}, api.Prog{Ins: []string{"x"}}, one(ref("in")), one(ref("x"), powered(0, 21)))
}

func TestWhatIsHandedInStaysAsItWas(t *testing.T) {
	for _, p := range allPrograms(t) {
		q := copied(p)
		q.Ins, q.Outs = append(q.Ins, "behind")[:len(q.Ins)], append(q.Outs, "behind")[:len(q.Outs)]
		q.Lets, q.All = append(q.Lets, api.Let{Name: "behind"})[:len(q.Lets)], append(q.All, ref("behind"))[:len(q.All)]
		Check(q)
		for _, s := range asked(q) {
			Where(q, s)
		}
		for _, list := range [][]string{Free(q), Free(q)} {
			for i := range list {
				list[i] = "changed"
			}
		}
		if !same(p, q) || q.Ins[:len(q.Ins)+1][len(q.Ins)] != "behind" || q.Outs[:len(q.Outs)+1][len(q.Outs)] != "behind" || q.Lets[:len(q.Lets)+1][len(q.Lets)].Name != "behind" || q.All[:len(q.All)+1][len(q.All)].Name != "behind" {
			t.Errorf("%v became %v", p, q)
		}
	}
}

func TestAnswersAreMemoryOfTheirOwn(t *testing.T) {
	for _, p := range allPrograms(t) {
		if name, _ := Check(p); shared(name, p) {
			t.Errorf("%v: %q is the program's memory", p, name)
		}
		first, second := Free(p), Free(p)
		for _, name := range first {
			if shared(name, p) {
				t.Errorf("%v: %q is the program's memory", p, name)
			}
		}
		first = append(first, "more")
		for i := range first {
			first[i] = "changed"
		}
		if !slices.Equal(second, Free(p)) || slices.Contains(second, "changed") {
			t.Errorf("%v: %v", p, second)
		}
	}
	p := read(t, "in x; let a = x; let b = x; out x;")
	free := Free(p)
	p.Lets[0].Name = "c"
	if !slices.Equal(free, []string{"a", "b"}) || !slices.Equal(Free(p), []string{"c", "b"}) {
		t.Error(free, Free(p))
	}
}

func TestAskedTwice(t *testing.T) {
	told := func(p api.Prog) string {
		name, e := Check(p)
		s := name + strconv.Itoa(int(e)) + strings.Join(Free(p), ",")
		for _, name := range asked(p) {
			let, i, ok := Where(p, name)
			s += strconv.FormatBool(let) + strconv.Itoa(i) + strconv.FormatBool(ok)
		}
		return s
	}
	all := allPrograms(t)
	var first []string
	for _, p := range all {
		first = append(first, told(p))
	}
	for range 5 {
		for i, p := range slices.Backward(all) {
			if s := told(p); s != first[i] || told(copied(p)) != first[i] {
				t.Errorf("%q became %q", brief(first[i]), brief(s))
			}
		}
	}
}
