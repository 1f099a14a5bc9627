package match_test

import (
	"math"
	"math/rand"
	"slices"
	"strings"
	"testing"
	"unsafe"

	"aumbry/api"
	"aumbry/match"
	"aumbry/term"
)

// tree is a term as the models see it: each part holds its arguments.
type tree struct {
	name string
	kids []*tree
}

// plant answers the tree of a right term, and what stands behind it.
func plant(t api.Term) (*tree, api.Term) {
	x, rest := &tree{name: t[0].Name}, t[1:]
	for range t[0].Arity {
		var kid *tree
		kid, rest = plant(rest)
		x.kids = append(x.kids, kid)
	}
	return x, rest
}

func (x *tree) cells() api.Term {
	t := api.Term{{Name: x.name, Arity: len(x.kids)}}
	for _, kid := range x.kids {
		t = append(t, kid.cells()...)
	}
	return t
}

func (x *tree) variable() bool { return x.name[0] >= 'A' && x.name[0] <= 'Z' }

// firstPlaces answers the variables of a tree as they stand first, each with the arguments that lead to it from above.
func (x *tree) firstPlaces() (vars []string, ways [][]int) {
	var walk func(x *tree, way []int)
	walk = func(x *tree, way []int) {
		if x.variable() && !slices.Contains(vars, x.name) {
			vars, ways = append(vars, x.name), append(ways, slices.Clone(way))
		}
		for i, kid := range x.kids {
			walk(kid, append(way, i))
		}
	}
	walk(x, nil)
	return vars, ways
}

// lookUp answers what stands at the end of a way, nil if the way leads nowhere.
func (x *tree) lookUp(way []int) *tree {
	for _, i := range way {
		if i >= len(x.kids) {
			return nil
		}
		x = x.kids[i]
	}
	return x
}

func (x *tree) filled(values map[string]*tree) *tree {
	if x.variable() {
		return values[x.name]
	}
	y := &tree{name: x.name}
	for _, kid := range x.kids {
		y.kids = append(y.kids, kid.filled(values))
	}
	return y
}

// modelMatch takes the definition by its words: if some terms make p to t, then each is what t has where its variable stands first in p; so these are put in, and what comes out is held against t.
func modelMatch(p, t api.Term) ([]api.Bind, bool) {
	pattern, _ := plant(p)
	whole, _ := plant(t)
	vars, ways := pattern.firstPlaces()
	values := map[string]*tree{}
	var binds []api.Bind
	for i, v := range vars {
		value := whole.lookUp(ways[i])
		if value == nil {
			return nil, false
		}
		values[v] = value
		binds = append(binds, api.Bind{Name: v, Value: value.cells()})
	}
	if !slices.Equal(pattern.filled(values).cells(), t) {
		return nil, false
	}
	return binds, true
}

// modelFill asks for each fault of the chapter's sentence by itself, in its order.
func modelFill(p api.Term, l []api.Bind) (api.Term, api.Errno) {
	if e := term.Check(p); e != api.OK {
		return nil, e
	}
	values := map[string]*tree{}
	for i, b := range l {
		vars, _ := term.Vars(api.Term{{Name: b.Name}})
		ahead := slices.ContainsFunc(l[:i], func(o api.Bind) bool { return o.Name == b.Name })
		switch e := term.Check(b.Value); {
		case len(vars) == 0:
			return nil, api.ErrName
		case ahead:
			return nil, api.ErrTwice
		case e != api.OK:
			return nil, e
		}
		values[b.Name], _ = plant(b.Value)
	}
	pattern, _ := plant(p)
	vars, _ := pattern.firstPlaces()
	for _, v := range vars {
		if values[v] == nil {
			return nil, api.ErrVar
		}
	}
	if made := pattern.filled(values).cells(); len(made) <= 64 {
		return made, api.OK
	}
	return nil, api.ErrBig
}

func sameBinds(a, b []api.Bind) bool {
	return slices.EqualFunc(a, b, func(a, b api.Bind) bool { return a.Name == b.Name && slices.Equal(a.Value, b.Value) })
}

func read(t *testing.T, s string) api.Term {
	t.Helper()
	x, _, e := term.Parse(s)
	if e != api.OK {
		t.Fatalf("the test's own %s: %v", s, e)
	}
	return x
}

// readBinds reads binds as "X=a Y=s(b)".
func readBinds(t *testing.T, s string) []api.Bind {
	t.Helper()
	var l []api.Bind
	for _, word := range strings.Fields(s) {
		v, value, _ := strings.Cut(word, "=")
		l = append(l, api.Bind{Name: v, Value: read(t, value)})
	}
	return l
}

// tower is the text of n cells within one another, the last one's name last.
func tower(n int, last string) string {
	return strings.Repeat("s(", n-1) + last + strings.Repeat(")", n-1)
}

func holdMatch(t *testing.T, p, x api.Term) {
	t.Helper()
	want, fits := modelMatch(p, x)
	for range 2 {
		if l, ok, e := match.Match(p, x); !sameBinds(l, want) || ok != fits || e != api.OK {
			t.Errorf("Match(%v, %v) = %v, %v, %v, want %v, %v", p, x, l, ok, e, want, fits)
		}
	}
}

func holdFill(t *testing.T, p api.Term, l []api.Bind) {
	t.Helper()
	want, wantE := modelFill(p, l)
	for range 2 {
		if x, e := match.Fill(p, l); !slices.Equal(x, want) || e != wantE {
			t.Errorf("Fill(%v, %v) = %v, %v, want %v, %v", p, l, x, e, want, wantE)
		}
	}
}

// everyTerm answers all terms of up to most cells over a few names.
func everyTerm(most int) []api.Term {
	bySize := [][]api.Term{nil, {{{Name: "a"}}, {{Name: "X"}}, {{Name: "Y"}}}}
	for n := 2; n <= most; n++ {
		var l []api.Term
		for _, kid := range bySize[n-1] {
			l = append(l, append(api.Term{{Name: "s", Arity: 1}}, kid...))
		}
		for first := 1; first < n-1; first++ {
			for _, a := range bySize[first] {
				for _, b := range bySize[n-1-first] {
					l = append(l, slices.Concat(api.Term{{Name: "g", Arity: 2}}, a, b))
				}
			}
		}
		bySize = append(bySize, l)
	}
	return slices.Concat(bySize...)
}

// grow answers a term of n cells, drawn from r, whose leaves are of the names.
func grow(r *rand.Rand, n int, leaves []string) api.Term {
	if n == 1 {
		return api.Term{{Name: leaves[r.Intn(len(leaves))]}}
	}
	rest := n - 1
	arity := min(rest, 1+r.Intn(4))
	t := api.Term{{Name: []string{"f", "g", "a"}[r.Intn(3)], Arity: arity}}
	for k := arity; k > 0; k-- {
		part := rest
		if k > 1 {
			part = 1 + r.Intn(rest-k+1)
		}
		t = append(t, grow(r, part, leaves)...)
		rest -= part
	}
	return t
}

func TestExamples(t *testing.T) {
	for _, c := range []struct {
		p, t, binds string
		ok          bool
	}{{"g(X,Y)", "g(a,s(b))", "X=a Y=s(b)", true}, {"g(X,X)", "g(a,b)", "", false}, {"X", "X", "X=X", true}} {
		if l, ok, e := match.Match(read(t, c.p), read(t, c.t)); !sameBinds(l, readBinds(t, c.binds)) || ok != c.ok || e != api.OK {
			t.Errorf("Match(%s, %s) = %v, %v, %v", c.p, c.t, l, ok, e)
		}
	}
	if x, e := match.Fill(read(t, "g(Y,X)"), readBinds(t, "X=a Y=s(b)")); !slices.Equal(x, read(t, "g(s(b),a)")) || e != api.OK {
		t.Errorf("Fill: %v, %v", x, e)
	}
	if x, e := match.Fill(read(t, "g(Y,X)"), readBinds(t, "X=a")); len(x) != 0 || e != api.ErrVar {
		t.Errorf("Fill without Y: %v, %v", x, e)
	}
}

func TestMatch(t *testing.T) {
	const no = "no"
	for _, c := range []struct{ p, t, want string }{
		// One variable fits every term.
		{"X", "a", "X=a"}, {"X", "X", "X=X"}, {"X", "Y", "X=Y"}, {"X", "s(X)", "X=s(X)"}, {"X", "h(a,X,Y,s(b))", "X=h(a,X,Y,s(b))"}, {"ABCDEFGH", "abcdefgh", "ABCDEFGH=abcdefgh"}, {"X", tower(64, "a"), "X=" + tower(64, "a")}, {"X0", tower(64, "X0"), "X0=" + tower(64, "X0")},
		// Without variables a pattern fits itself alone.
		{"a", "a", ""}, {"a", "b", no}, {"a", "X", no}, {"a", "a(a)", no}, {"a(a)", "a", no}, {"f(a)", "f(a)", ""}, {"f(a)", "g(a)", no}, {"f(a)", "f(b)", no}, {"f(a)", "f(f(a))", no}, {"f(f(a))", "f(a)", no}, {"f(a)", "f(a,a)", no}, {"f(a,a)", "f(a)", no}, {"f(a,b)", "f(b,a)", no}, {"f(a)", "f(X)", no}, {"f(a)", "X", no}, {"a", "a1", no}, {"h(a,b,c,d)", "h(a,b,c,d)", ""}, {"h(a,b,c,d)", "h(a,b,c,e)", no}, {"h(a,b,c,d)", "h(a,b,c)", no}, {tower(64, "a"), tower(64, "a"), ""}, {tower(64, "a"), tower(64, "b"), no}, {tower(64, "a"), tower(63, "a"), no}, {tower(63, "a"), tower(64, "a"), no},
		// Cells in the same order, otherwise put together.
		{"g(s(a),a)", "g(s(a,a))", no}, {"g(s(a,a))", "g(s(a),a)", no}, {"g(g(a,b),c)", "g(g(a),b,c)", no}, {"g(X,a)", "g(s(a))", no}, {"g(s(X))", "g(a,s(b))", no},
		// Several variables, and the order in which they are told.
		{"g(X,Y)", "g(a,b)", "X=a Y=b"}, {"g(Y,X)", "g(a,b)", "Y=a X=b"}, {"h(Z,Y,X,A)", "h(a,b,c,d)", "Z=a Y=b X=c A=d"}, {"h(g(Y,Z),X,Y)", "h(g(a,b),c,a)", "Y=a Z=b X=c"}, {"g(s(B),A)", "g(s(A),B)", "B=A A=B"}, {"h(X10,X1,X,X9)", "h(a,b,c,d)", "X10=a X1=b X=c X9=d"},
		{"f(X)", "f(a)", "X=a"}, {"f(X)", "g(a)", no}, {"f(X)", "f(a,b)", no}, {"f(X)", "f", no}, {"f(X)", "a", no}, {"f(X)", "X", no}, {"f(X,Y)", "f(X)", no}, {"g(X,a)", "g(b,a)", "X=b"}, {"g(X,a)", "g(b,b)", no}, {"g(a,X)", "g(b,b)", no}, {"s(s(X))", "s(a)", no}, {"s(s(X))", "s(s(a))", "X=a"}, {"s(s(X))", "s(s(s(a)))", "X=s(a)"},
		{"g(X,b)", "g(h(a,a,a,a),b)", "X=h(a,a,a,a)"}, {"g(s(X),s(Y))", "g(s(g(a,b)),s(g(c,d)))", "X=g(a,b) Y=g(c,d)"}, {"plus(s(X),Y)", "plus(s(zero),s(zero))", "X=zero Y=s(zero)"}, {"plus(s(X),Y)", "plus(zero,s(zero))", no},
		// A variable in several places.
		{"g(X,X)", "g(a,a)", "X=a"}, {"g(X,X)", "g(s(a),s(a))", "X=s(a)"}, {"g(X,X)", "g(s(a),s(b))", no}, {"g(X,X)", "g(a,s(a))", no}, {"g(X,X)", "g(s(a),a)", no}, {"g(X,X)", "g(a,b)", no}, {"g(X,X)", "g(f(a,b),f(b,a))", no}, {"h(X,X,X,X)", "h(a,a,a,a)", "X=a"}, {"h(X,X,X,X)", "h(a,a,a,b)", no}, {"h(X,X,X,X)", "h(b,a,a,a)", no}, {"h(X,Y,X,Y)", "h(a,b,a,b)", "X=a Y=b"}, {"h(X,Y,X,Y)", "h(a,b,b,a)", no}, {"h(X,Y,X,Y)", "h(a,b,a,a)", no}, {"h(X,Y,Z,X)", "h(a,b,a,a)", "X=a Y=b Z=a"}, {"g(X,s(X))", "g(s(a),s(s(a)))", "X=s(a)"}, {"g(X,s(X))", "g(s(a),s(a))", no}, {"g(s(X),X)", "g(s(s(a)),s(a))", "X=s(a)"}, {"h(X,Y,X)", "h(a,a,a)", "X=a Y=a"},
		{"g(X,X)", "g(a,a(a))", no}, {"g(X,X)", "g(a(a),a)", no}, {"h(X,X,b)", "h(a(b),a(b),b)", "X=a(b)"}, {"h(X,X,b)", "h(a(b),a(c),b)", no},
		// Variables of the term are cells like others, also those of the pattern's own names.
		{"g(X,a)", "g(a,X)", no}, {"g(a,X)", "g(a,X)", "X=X"}, {"g(X,Y)", "g(Y,X)", "X=Y Y=X"}, {"g(X,X)", "g(Y,Y)", "X=Y"}, {"g(X,X)", "g(X,X)", "X=X"}, {"g(X,X)", "g(X,Y)", no}, {"g(X,X)", "g(X,s(X))", no}, {"g(X,s(X))", "g(Y,s(Y))", "X=Y"}, {"g(X,Y)", "g(s(X),s(X))", "X=s(X) Y=s(X)"}, {"s(X)", "X", no}, {"s(a)", "s(X)", no}, {"g(X,X)", "X", no}, {"g(X,Y)", "g(Y,Y)", "X=Y Y=Y"}, {"h(X,Y,X)", "h(Y,X,Y)", "X=Y Y=X"}, {"h(X,Y,X)", "h(Y,X,X)", no},
		// 64 cells.
		{tower(64, "X"), tower(64, "a"), "X=a"}, {tower(64, "X"), tower(63, "a"), no}, {tower(63, "X"), tower(64, "a"), "X=s(a)"}, {"s(X)", tower(64, "Y"), "X=" + tower(63, "Y")}, {"g(X,X)", "g(" + tower(31, "a") + "," + tower(31, "a") + ")", "X=" + tower(31, "a")}, {"g(X,X)", "g(" + tower(31, "a") + "," + tower(31, "b") + ")", no}, {"g(X,Y)", "g(" + tower(62, "a") + ",b)", "X=" + tower(62, "a") + " Y=b"}, {"g(X,Y)", "g(b," + tower(62, "a") + ")", "X=b Y=" + tower(62, "a")}, {"g(X,X)", "g(" + tower(31, "a") + "," + tower(32, "a") + ")", no},
	} {
		p, x := read(t, c.p), read(t, c.t)
		var want []api.Bind
		if c.want != no {
			want = readBinds(t, c.want)
		}
		if l, ok, e := match.Match(p, x); !sameBinds(l, want) || ok != (c.want != no) || e != api.OK {
			t.Errorf("Match(%s, %s) = %v, %v, %v, want %s", c.p, c.t, l, ok, e, c.want)
		}
		holdMatch(t, p, x)
	}
}

// fault is a list of cells that is no right term, with the error that it is to have.
type fault struct {
	t api.Term
	e api.Errno
}

// wrong are faults of every kind.
func wrong() map[string]fault {
	a := api.Cell{Name: "a"}
	return map[string]fault{
		"no list": {nil, api.ErrForm}, "no cells": {api.Term{}, api.ErrForm}, "a cell too few": {api.Term{{Name: "s", Arity: 1}}, api.ErrForm}, "a cell too many": {api.Term{a, a}, api.ErrForm}, "a variable and a cell": {api.Term{{Name: "X"}, a}, api.ErrForm},
		"no name": {api.Term{{}}, api.ErrName}, "no right name": {api.Term{{Name: "aX"}}, api.ErrName}, "no right name deep inside": {api.Term{{Name: "s", Arity: 1}, {Name: "1"}}, api.ErrName},
		"arity -1": {api.Term{{Name: "a", Arity: -1}}, api.ErrArity}, "arity 5": {append(api.Term{{Name: "a", Arity: 5}}, slices.Repeat(api.Term{a}, 5)...), api.ErrArity}, "a variable over one": {api.Term{{Name: "X", Arity: 1}, a}, api.ErrArity}, "a great arity": {api.Term{{Name: "a", Arity: math.MaxInt}}, api.ErrArity}, "a least arity": {api.Term{{Name: "X", Arity: math.MinInt}}, api.ErrArity},
		"65 cells": {append(slices.Repeat(api.Term{{Name: "s", Arity: 1}}, 64), a), api.ErrBig}, "65 empty cells": {make(api.Term, 65), api.ErrBig},
	}
}

// TestMatchFaults: the error of p is told ahead of that of t, and a fault ahead of whether p fits.
func TestMatchFaults(t *testing.T) {
	right := []api.Term{read(t, "a"), read(t, "X"), read(t, "s(a)"), read(t, tower(64, "X"))}
	tell := func(what string, p, x api.Term, want api.Errno) {
		for range 2 {
			if l, ok, e := match.Match(p, x); len(l) != 0 || ok || e != want {
				t.Errorf("Match with %s: %v, %v, %v, want %v", what, l, ok, e, want)
			}
		}
	}
	for what, p := range wrong() {
		for _, x := range right {
			tell(what+" as the pattern", p.t, x, p.e)
			tell(what+" as the term", x, p.t, p.e)
		}
		for other, x := range wrong() {
			tell(what+" as the pattern, "+other+" as the term", p.t, x.t, p.e)
		}
	}
}

func TestFill(t *testing.T) {
	for _, c := range []struct{ p, binds, want string }{
		{"a", "", "a"}, {"X", "X=a", "a"}, {"X", "X=X", "X"}, {"X", "X=s(X)", "s(X)"}, {"f(X)", "X=g(a,b)", "f(g(a,b))"}, {"h(X,Y,X,Z)", "Z=c Y=b X=s(a)", "h(s(a),b,s(a),c)"}, {"h(a,X,s(X),b)", "X=f(c,d)", "h(a,f(c,d),s(f(c,d)),b)"}, {"f(ABCDEFGH)", "ABCDEFGH=abcdefgh", "f(abcdefgh)"},
		// Binds of variables that p doesn't have.
		{"a", "X=b", "a"}, {"s(X)", "Y=b X=a Z=c", "s(a)"}, {"s(X1)", "X=b X1=a X10=c", "s(a)"}, {"a", "X=" + tower(64, "b"), "a"}, {tower(64, "a"), "X=" + tower(64, "b"), tower(64, "a")},
		// Variables in the Values stay, also those that have Values themselves: nothing is filled again.
		{"g(X,Y)", "X=Y Y=X", "g(Y,X)"}, {"g(X,X)", "X=g(X,Y) Y=a", "g(g(X,Y),g(X,Y))"}, {"s(X)", "X=Y Y=a", "s(Y)"}, {"s(X)", "Y=a X=Y", "s(Y)"}, {"g(X,Y)", "X=s(Y) Y=s(X)", "g(s(Y),s(X))"}, {"s(X)", "X=Z", "s(Z)"},
		// 64 cells.
		{"X", "X=" + tower(64, "Y"), tower(64, "Y")}, {tower(64, "X"), "X=a", tower(64, "a")}, {tower(32, "X"), "X=" + tower(33, "a"), tower(64, "a")}, {"h(X,X,X)", "X=" + tower(21, "a"), "h(" + tower(21, "a") + "," + tower(21, "a") + "," + tower(21, "a") + ")"}, {"g(X,Y)", "X=" + tower(62, "a") + " Y=b", "g(" + tower(62, "a") + ",b)"},
	} {
		p, l := read(t, c.p), readBinds(t, c.binds)
		if x, e := match.Fill(p, l); !slices.Equal(x, read(t, c.want)) || e != api.OK {
			t.Errorf("Fill(%s, %s) = %v, %v, want %s", c.p, c.binds, x, e, c.want)
		}
		holdFill(t, p, l)
	}
}

func TestFillFaults(t *testing.T) {
	for _, c := range []struct {
		p, binds string
		want     api.Errno
	}{
		// Names that are no variables.
		{"a", "x=a", api.ErrName}, {"a", "=a", api.ErrName}, {"a", "Xx=a", api.ErrName}, {"a", "0X=a", api.ErrName}, {"a", "ABCDEFGHI=a", api.ErrName}, {"a", "a=a", api.ErrName}, {"X", "X=a x=a", api.ErrName}, {"X", "X_=a", api.ErrName}, {"X", "f(X)=a", api.ErrName},
		// Names that stood ahead, of p's variables and of others, of one Value and of two.
		{"X", "X=a X=a", api.ErrTwice}, {"X", "X=a X=b", api.ErrTwice}, {"a", "X=a Y=a X=a", api.ErrTwice}, {"a", "Y=a X=a X=b", api.ErrTwice}, {"g(X,Y)", "X=a Y=b Z=c Y=b", api.ErrTwice},
		// Bind by bind.
		{"a", "x=a X=a X=a", api.ErrName}, {"a", "X=a X=a x=a", api.ErrTwice}, {"a", "x=a x=a", api.ErrName}, {"a", "X=a x=a X=a", api.ErrName},
		// A variable without a Value.
		{"X", "", api.ErrVar}, {"g(X,Y)", "X=a", api.ErrVar}, {"g(X,Y)", "Y=a", api.ErrVar}, {"g(X,Y)", "Z=a", api.ErrVar}, {"X1", "X=a", api.ErrVar}, {"X", "X1=a", api.ErrVar}, {"X", "Y=X", api.ErrVar}, {tower(64, "X"), "Y=a", api.ErrVar}, {"h(X,X,X,Y)", "X=a", api.ErrVar},
		// The binds' faults ahead of that.
		{"X", "x=a", api.ErrName}, {"g(X,Y)", "X=a X=a", api.ErrTwice}, {"Z", "X=a Y=b y=c", api.ErrName},
		// 65 cells and more.
		{"s(X)", "X=" + tower(64, "a"), api.ErrBig}, {"g(X,X)", "X=" + tower(32, "a"), api.ErrBig}, {"g(X,Y)", "X=" + tower(63, "a") + " Y=b", api.ErrBig}, {"g(Y,X)", "X=" + tower(63, "a") + " Y=b", api.ErrBig}, {tower(64, "X"), "X=s(a)", api.ErrBig}, {"h(X,X,X,X)", "X=" + tower(64, "a"), api.ErrBig}, {"g(" + tower(62, "X") + ",X)", "X=" + tower(2, "a"), api.ErrBig},
		// A variable without a Value ahead of too many cells, where the cells ahead of it are too many alone.
		{"g(X,Y)", "X=" + tower(64, "a"), api.ErrVar}, {"h(X,X,X,Y)", "X=" + tower(64, "a"), api.ErrVar}, {"h(Y,X,X,X)", "X=" + tower(64, "a"), api.ErrVar}, {"g(X,X)", "X=" + tower(64, "a") + " X=a", api.ErrTwice}, {"g(X,X)", "X=" + tower(64, "a") + " x=a", api.ErrName},
	} {
		p, l := read(t, c.p), readBinds(t, c.binds)
		if x, e := match.Fill(p, l); len(x) != 0 || e != c.want {
			t.Errorf("Fill(%s, %s) = %v, %v, want %v", c.p, c.binds, x, e, c.want)
		}
		holdFill(t, p, l)
	}
}

// TestFillWrongTerms: p that is no right term is told ahead of every bind, the Value of a bind behind its name, ahead of the binds that follow.
func TestFillWrongTerms(t *testing.T) {
	a := read(t, "a")
	tell := func(what string, p api.Term, want api.Errno, l ...api.Bind) {
		for range 2 {
			if x, e := match.Fill(p, l); len(x) != 0 || e != want {
				t.Errorf("Fill with %s: %v, %v, want %v", what, x, e, want)
			}
		}
		holdFill(t, p, l)
	}
	for what, bad := range wrong() {
		for _, l := range [][]api.Bind{nil, {{Name: "x", Value: a}}, {{Name: "X", Value: a}, {Name: "X", Value: a}}, {{Name: "X", Value: a}}, {{Name: "x", Value: make(api.Term, 65)}}} {
			tell(what+" as the pattern", bad.t, bad.e, l...)
		}
		value := api.Bind{Name: "X", Value: bad.t}
		x, y := api.Bind{Name: "X", Value: a}, api.Bind{Name: "Y", Value: a}
		for _, p := range []api.Term{a, read(t, "X"), read(t, "g(X,Z)"), read(t, tower(64, "X"))} {
			tell(what+" as a Value", p, bad.e, value)
			tell(what+" as the second Value", p, bad.e, y, value)
			tell(what+" as a Value, then no name", p, bad.e, value, api.Bind{Name: "x", Value: a})
			tell(what+" as a Value, then its name again", p, bad.e, value, x)
			tell("no name, then "+what+" as a Value", p, api.ErrName, api.Bind{Name: "x", Value: a}, value)
			tell("no name of "+what, p, api.ErrName, api.Bind{Name: "x", Value: bad.t})
			tell("a name again, of "+what, p, api.ErrTwice, x, value)
			tell("a name again, then "+what+" as a Value", p, api.ErrTwice, x, x, api.Bind{Name: "Y", Value: bad.t})
		}
		for other, next := range wrong() {
			tell(what+" as a Value, then "+other, a, bad.e, value, api.Bind{Name: "Y", Value: next.t})
			tell(other+" as the pattern, "+what+" as a Value", next.t, next.e, value)
		}
	}
}

func TestEveryShortPair(t *testing.T) {
	terms := everyTerm(5)
	for _, p := range terms {
		for _, x := range terms {
			holdMatch(t, p, x)
		}
	}
}

func TestEveryShortFill(t *testing.T) {
	some := slices.Concat(readBinds(t, "X=a X=s(Y) Y=X Y=g(X,b) Z=Y x=a =a"), []api.Bind{{Name: "X"}, {Name: "Y", Value: api.Term{{Name: "a", Arity: 5}}}, {Name: "Y", Value: read(t, tower(62, "X"))}, {Name: "X", Value: make(api.Term, 65)}})
	lists := [][]api.Bind{nil}
	for _, a := range some {
		lists = append(lists, []api.Bind{a})
		for _, b := range some {
			lists = append(lists, []api.Bind{a, b})
			for _, c := range some {
				lists = append(lists, []api.Bind{a, b, c})
			}
		}
	}
	patterns := append(everyTerm(3), nil, api.Term{{Name: "X", Arity: 1}}, api.Term{{Name: "aX"}})
	for _, p := range patterns {
		for _, l := range lists {
			holdFill(t, p, l)
		}
	}
}

// TestManyTerms holds both calls against the models at terms of every size: patterns drawn by chance, and pieces of the term put in for some of their variables, so that many fit.
func TestManyTerms(t *testing.T) {
	r := rand.New(rand.NewSource(5))
	leaves := []string{"a", "b", "X", "Y", "Z1", "X", "Y"}
	for n := 1; n <= api.MaxCells; n++ {
		for range 60 {
			p := grow(r, n, leaves)
			var l []api.Bind
			for _, v := range []string{"Z1", "Y", "X", "W"}[:3+r.Intn(2)] {
				l = append(l, api.Bind{Name: v, Value: grow(r, 1+r.Intn(5), leaves)})
			}
			holdFill(t, p, l)
			holdFill(t, p, l[r.Intn(3):])
			x, e := match.Fill(p, l)
			if e != api.OK {
				continue
			}
			holdMatch(t, p, x)
			holdMatch(t, x, p)
			at := r.Intn(len(x))
			if x[at].Arity == 0 {
				x[at].Name = leaves[r.Intn(len(leaves))]
			} else {
				x[at].Name = "other"
			}
			holdMatch(t, p, x)
		}
	}
}

// TestWhatFitsFillsBack is the first part of P5.3.
func TestWhatFitsFillsBack(t *testing.T) {
	fill := func(p, x api.Term) {
		t.Helper()
		l, ok, e := match.Match(p, x)
		if !ok {
			return
		}
		if back, f := match.Fill(p, l); e != api.OK || f != api.OK || !slices.Equal(back, x) {
			t.Errorf("Fill of Match(%v, %v): %v, %v, %v", p, x, back, e, f)
		}
	}
	terms := everyTerm(5)
	for _, p := range terms {
		for _, x := range terms {
			fill(p, x)
		}
	}
	fill(read(t, "g(X,X)"), read(t, "g("+tower(31, "X")+","+tower(31, "X")+")"))
	fill(read(t, "X"), read(t, tower(64, "X")))
}

// TestFitsItselfAlone is the second part of P5.3.
func TestFitsItselfAlone(t *testing.T) {
	terms := everyTerm(5)
	for _, p := range terms {
		vars, _ := term.Vars(p)
		if l, ok, _ := match.Match(p, p); !ok || len(l) != len(vars) {
			t.Errorf("%v doesn't fit itself: %v, %v", p, l, ok)
		}
		if len(vars) > 0 {
			continue
		}
		for _, x := range terms {
			if l, ok, _ := match.Match(p, x); ok != slices.Equal(p, x) || len(l) != 0 {
				t.Errorf("Match(%v, %v) = %v, %v", p, x, l, ok)
			}
		}
	}
}

// TestFitsOnward is the third part of P5.3.
func TestFitsOnward(t *testing.T) {
	terms := everyTerm(4)
	fits := make([][]bool, len(terms))
	for i, p := range terms {
		fits[i] = make([]bool, len(terms))
		for j, x := range terms {
			_, fits[i][j], _ = match.Match(p, x)
		}
	}
	onward := 0
	for p := range terms {
		for x := range terms {
			for u := range terms {
				if !fits[p][x] || !fits[x][u] {
					continue
				}
				onward++
				if !fits[p][u] {
					t.Errorf("%v fits %v, which fits %v, which the first doesn't", terms[p], terms[x], terms[u])
				}
			}
		}
	}
	if onward == 0 {
		t.Error("nothing fits onward")
	}
}

// TestManyBinds: the call ends at any number of binds (R1), each of which is looked at.
func TestManyBinds(t *testing.T) {
	var l []api.Bind
	for n := range 30000 {
		digits := []byte("A00000")
		for at := 5; n > 0; at-- {
			digits[at] += byte(n % 10)
			n /= 10
		}
		l = append(l, api.Bind{Name: string(digits), Value: read(t, "s(a)")})
	}
	p := read(t, "g(A00000,A29999)")
	if x, e := match.Fill(p, l); !slices.Equal(x, read(t, "g(s(a),s(a))")) || e != api.OK {
		t.Errorf("Fill of many binds: %v, %v", x, e)
	}
	if x, e := match.Fill(p, append(l, l[15000])); len(x) != 0 || e != api.ErrTwice {
		t.Errorf("Fill of many binds, one of them twice: %v, %v", x, e)
	}
	if x, e := match.Fill(p, append(l, api.Bind{Name: "A"})); len(x) != 0 || e != api.ErrForm {
		t.Errorf("Fill of many binds, the last one without a Value: %v, %v", x, e)
	}
}

// span is where something lies in memory, its spare room included. As long as the span is there that isn't used again, for another answer perhaps.
type span struct {
	from, to uintptr
	kept     unsafe.Pointer
}

func spanAt(kept unsafe.Pointer, size uintptr) span {
	return span{uintptr(kept), uintptr(kept) + size, kept}
}

func textSpan(s string) span {
	return spanAt(unsafe.Pointer(unsafe.StringData(s)), uintptr(len(s)))
}

func listSpan[T any](l []T) span {
	var one T
	return spanAt(unsafe.Pointer(unsafe.SliceData(l)), uintptr(cap(l))*unsafe.Sizeof(one))
}

func termSpans(t api.Term) []span {
	l := []span{listSpan(t)}
	for _, c := range t {
		l = append(l, textSpan(c.Name))
	}
	return l
}

func bindSpans(binds []api.Bind) []span {
	l := []span{listSpan(binds)}
	for _, b := range binds {
		l = append(append(l, textSpan(b.Name)), termSpans(b.Value)...)
	}
	return l
}

// apart reports whether no two of the spans have memory in common.
func apart(spans []span) bool {
	for i, a := range spans {
		for _, b := range spans[:i] {
			if a.from < b.to && b.from < a.to {
				return false
			}
		}
	}
	return true
}

// roomy answers the term of a text with names that are memory of their own, and spare room behind its cells.
func roomy(t *testing.T, s string) api.Term {
	t.Helper()
	cells := append(make(api.Term, 0, 80), read(t, s)...)
	for i := range cells[len(cells):cap(cells)] {
		cells[len(cells):cap(cells)][i] = api.Cell{Name: strings.Clone("spare"), Arity: i}
	}
	return cells
}

// roomyBinds answers binds with spare room behind them and behind their Values.
func roomyBinds(t *testing.T, s string) []api.Bind {
	t.Helper()
	l := make([]api.Bind, 0, 8)
	for _, b := range readBinds(t, s) {
		text, _ := term.Print(b.Value)
		l = append(l, api.Bind{Name: strings.Clone(b.Name), Value: roomy(t, text)})
	}
	for i := range l[len(l):cap(l)] {
		l[len(l):cap(l)][i] = api.Bind{Name: strings.Clone("SPARE"), Value: roomy(t, "spare")}
	}
	return l
}

var memorySamples = []struct{ p, t, binds string }{
	{"X", "a", "X=a"}, {"X", "X", "X=X"}, {"a", "a", ""}, {"g(X,Y)", "g(a,s(b))", "X=a Y=s(b)"}, {"h(X,Y,X,Y)", "h(s(X),b,s(X),b)", "X=s(X) Y=b"}, {"h(s(Z),a,Y,X)", "h(s(g(a,a)),a,Y,s(s(c)))", "Z=g(a,a) Y=Y X=s(s(c))"}, {tower(63, "X"), tower(64, "a"), "X=s(a)"}, {"s(X)", tower(64, "a"), "X=" + tower(63, "a")},
	{"g(X,X)", "g(a,b)", "X=a"}, {"a", "b", "X=a"},
}

// TestNewMemory: what is answered lies apart from what is handed in and from what was answered earlier, and so do the lists of one answer (R4).
func TestNewMemory(t *testing.T) {
	for _, c := range memorySamples {
		p, x, l := roomy(t, c.p), roomy(t, c.t), roomyBinds(t, c.binds)
		given := slices.Concat(termSpans(p), termSpans(x), bindSpans(l))
		if !apart(given) {
			t.Fatal("the sample itself shares memory")
		}
		for range 2 {
			told, _, _ := match.Match(p, x)
			given = append(given, bindSpans(told)...)
			made, e := match.Fill(p, l)
			if e != api.OK {
				t.Errorf("Fill(%s, %s): %v", c.p, c.binds, e)
			}
			given = append(given, termSpans(made)...)
		}
		if !apart(given) {
			t.Errorf("%s, %s: answers share memory with what was handed in, or with each other", c.p, c.t)
		}
	}
}

// TestHandedInStays: no call changes what it is handed, spare room included, nor sees it change later (R4).
func TestHandedInStays(t *testing.T) {
	for _, c := range memorySamples {
		p, x, l := roomy(t, c.p), roomy(t, c.t), roomyBinds(t, c.binds)
		told, _, _ := match.Match(p, x)
		made, _ := match.Fill(p, l)
		whole := func(t api.Term) api.Term { return t[:cap(t)] }
		if !slices.Equal(whole(p), whole(roomy(t, c.p))) || !slices.Equal(whole(x), whole(roomy(t, c.t))) {
			t.Errorf("%s or %s was changed", c.p, c.t)
		}
		same := func(a, b api.Bind) bool { return a.Name == b.Name && slices.Equal(whole(a.Value), whole(b.Value)) }
		if before := roomyBinds(t, c.binds); !slices.EqualFunc(l[:cap(l)], before[:cap(before)], same) {
			t.Errorf("the binds %s were changed", c.binds)
		}
		want, _ := modelMatch(p, x)
		wantMade, _ := modelFill(p, l)
		for _, b := range l {
			clear(whole(b.Value))
		}
		clear(l[:cap(l)])
		clear(whole(p))
		clear(whole(x))
		if !sameBinds(told, want) || !slices.Equal(made, wantMade) {
			t.Errorf("what %s, %s and %s came to hangs on what was handed in", c.p, c.t, c.binds)
		}
	}
}

// TestAnswersStandAlone: an answer that is written over, its spare room too, moves no other answer and none that comes later.
func TestAnswersStandAlone(t *testing.T) {
	for _, c := range memorySamples {
		p, x, l := read(t, c.p), read(t, c.t), readBinds(t, c.binds)
		want, _ := modelMatch(p, x)
		wantMade, _ := modelFill(p, l)
		for range 2 {
			told, _, _ := match.Match(p, x)
			made, _ := match.Fill(p, l)
			if !slices.Equal(made, wantMade) {
				t.Errorf("Fill(%s, %s) = %v", c.p, c.binds, made)
			}
			clear(made[:cap(made)])
			if len(told) != len(want) {
				t.Fatalf("Match(%s, %s) = %v", c.p, c.t, told)
			}
			for i, b := range told {
				if b.Name != want[i].Name || !slices.Equal(b.Value, want[i].Value) {
					t.Errorf("Match(%s, %s)[%d] = %v", c.p, c.t, i, b)
				}
				clear(b.Value[:cap(b.Value)])
			}
			clear(told[:cap(told)])
		}
	}
}
