package scope

import (
	"slices"
	"strings"
	"testing"
	"unsafe"

	"talweg/api"
	"talweg/tree"
)

// Here is, by other means than the package's, what Check, Where and Free must tell: all places of a program at which a name stands are one list, in which each one is held against those ahead of it.

// mention is a place at which a name stands: whether it is given to something there, or used; of what it is given to, whether that is a let, and which one.
type mention struct {
	name  string
	gives bool
	let   bool
	i     int
}

// mentions are all of a program's, from its front.
func mentions(p api.Prog) []mention {
	var list []mention
	for i, name := range p.Ins {
		list = append(list, mention{name, true, false, i})
	}
	for i, n := range p.All {
		if n.Kind == api.Ref {
			list = append(list, mention{name: n.Name})
		}
		for j, l := range p.Lets {
			if l.Root == i {
				list = append(list, mention{l.Name, true, true, j})
			}
		}
	}
	for _, name := range p.Outs {
		list = append(list, mention{name: name})
	}
	return list
}

// checked is what Check must tell of a right program.
func checked(p api.Prog) (string, api.Errno) {
	list := mentions(p)
	for i, m := range list {
		is := slices.ContainsFunc(list[:i], func(o mention) bool { return o.gives && o.name == m.name })
		switch {
		case m.gives && is:
			return m.name, api.ErrTwice
		case !m.gives && !is:
			return m.name, api.ErrName
		}
	}
	return "", api.OK
}

// found is what Where must tell of a program in order.
func found(p api.Prog, name string) (bool, int, bool) {
	for _, m := range mentions(p) {
		if m.gives && m.name == name {
			return m.let, m.i, true
		}
	}
	return false, 0, false
}

// unused is what Free must tell of a program in order.
func unused(p api.Prog) []string {
	list := mentions(p)
	var names []string
	for _, m := range list {
		if m.let && !slices.ContainsFunc(list, func(o mention) bool { return !o.gives && o.name == m.name }) {
			names = append(names, m.name)
		}
	}
	return names
}

// asked are names that Where is asked for: all of a program's, and some others.
func asked(p api.Prog) []string {
	list := []string{"", "in", "x", "a", "z", "q9", "\u00e9", "\xff"}
	for _, m := range mentions(p) {
		list = append(list, m.name)
	}
	for _, s := range slices.Clone(list[:min(len(list), 20)]) {
		list = append(list, s+"1", strings.ToUpper(s), s[:len(s)/2])
	}
	slices.Sort(list)
	return slices.Compact(list)
}

// brief is a text as it is told where a test fails.
func brief(s string) string { return s[:min(len(s), 200)] }

// tell looks whether Check tells a name and an error, and Where and Free what they must beside it.
func tell(t *testing.T, what string, p api.Prog, name string, e api.Errno) {
	t.Helper()
	if n, got := Check(p); n != name || got != e {
		t.Errorf("%s: %q, %v, not %q, %v", brief(what), brief(n), got, brief(name), e)
	}
	var free []string
	if e == api.OK {
		free = unused(p)
	}
	if got := Free(p); !slices.Equal(got, free) {
		t.Errorf("%s: %v are free, not %v", brief(what), got, free)
	}
	for _, s := range asked(p) {
		l, j, is := false, 0, false
		if e == api.OK {
			l, j, is = found(p, s)
		}
		if let, i, ok := Where(p, s); let != l || i != j || ok != is {
			t.Errorf("%s: %q is %t, %d, %t, not %t, %d, %t", brief(what), brief(s), let, i, ok, l, j, is)
		}
	}
}

// look looks whether of a right program all is told as it must be.
func look(t *testing.T, what string, p api.Prog) {
	t.Helper()
	if !tree.Right(p) {
		t.Fatalf("%s isn't right", brief(what))
	}
	name, e := checked(p)
	tell(t, what, p, name, e)
}

// read is a text's program.
func read(t *testing.T, s string) api.Prog {
	t.Helper()
	p, at, e := tree.Parse(s)
	if e != api.OK {
		t.Fatalf("%q: %v at %v", brief(s), e, at)
	}
	return p
}

// says looks whether of a text's program Check tells a name and an error; they must be what the places tell.
func says(t *testing.T, s, name string, e api.Errno) {
	t.Helper()
	p := read(t, s)
	if n, want := checked(p); n != name || want != e {
		t.Errorf("%q: the places tell %q, %v", brief(s), n, want)
	}
	tell(t, s, p, name, e)
}

// none looks whether a program that isn't right has an empty name, ErrArg, and nothing else.
func none(t *testing.T, what string, p api.Prog) {
	t.Helper()
	if tree.Right(p) {
		t.Errorf("%s is right", brief(what))
	}
	tell(t, what, p, "", api.ErrArg)
}

// copied is a program with memory of its own, within names too.
func copied(p api.Prog) api.Prog {
	q := api.Prog{Ins: slices.Clone(p.Ins), Lets: slices.Clone(p.Lets), Outs: slices.Clone(p.Outs), All: slices.Clone(p.All)}
	for _, list := range [][]string{q.Ins, q.Outs} {
		for i := range list {
			list[i] = strings.Clone(list[i])
		}
	}
	for i := range q.Lets {
		q.Lets[i].Name = strings.Clone(q.Lets[i].Name)
	}
	for i := range q.All {
		n := &q.All[i]
		n.Name = strings.Clone(n.Name)
		n.Num.Num, n.Num.Den = slices.Clone(n.Num.Num), slices.Clone(n.Num.Den)
	}
	return q
}

// sameNode tells whether two nodes have the same in each field.
func sameNode(a, b api.Node) bool {
	return a.Kind == b.Kind && a.A == b.A && a.B == b.B && a.Exp == b.Exp && a.Name == b.Name &&
		a.Num.Neg == b.Num.Neg && slices.Equal(a.Num.Num, b.Num.Num) && slices.Equal(a.Num.Den, b.Num.Den)
}

// same tells whether two programs have the same in each field.
func same(p, q api.Prog) bool {
	return slices.Equal(p.Ins, q.Ins) && slices.Equal(p.Outs, q.Outs) && slices.Equal(p.Lets, q.Lets) && slices.EqualFunc(p.All, q.All, sameNode)
}

// shared tells whether a text lies in the memory of one of a program's names.
func shared(s string, p api.Prog) bool {
	if s == "" {
		return false
	}
	at := uintptr(unsafe.Pointer(unsafe.StringData(s)))
	return slices.ContainsFunc(mentions(p), func(m mention) bool {
		from := uintptr(unsafe.Pointer(unsafe.StringData(m.name)))
		return m.name != "" && at >= from && at < from+uintptr(len(m.name))
	})
}
