package names_test

import (
	"fmt"
	"math"
	"math/rand"
	"slices"
	"strings"
	"testing"

	"aumbry/api"
	"aumbry/leaf"
	"aumbry/names"
	"aumbry/refs"
	"aumbry/space"
	"aumbry/tree"
)

// TestExamples: those of the chapter.
func TestExamples(t *testing.T) {
	p := begin(t, 64, 2)
	want(t, p.n.Declare("s", 1), api.OK)
	want(t, p.n.Declare("s", 2), api.ErrTwice)
	want(t, p.n.Fits(read(t, "s(b)")), api.ErrSymbol)
	want(t, p.n.Fits(read(t, "s")), api.ErrArity)
	want(t, p.n.Set("x", read(t, "s(X)")), api.ErrVar)
}

// TestNew: two trees without entries, the symbols' one ahead; each the free page with the least number (P18.1).
func TestNew(t *testing.T) {
	_, s := opened(t, 64, 2)
	dir, list, e := refs.New(s)
	want(t, e, api.OK)
	empty, e := leaf.Pack(leaf.Leaf, nil)
	want(t, e, api.OK)
	for at := 38; at < 63; at += 2 {
		symbols, terms, e := names.New(s)
		if symbols != at || terms != at+1 || e != api.OK {
			t.Fatalf("New: %d, %d, %v, want %d, %d", symbols, terms, e, at, at+1)
		}
		for _, root := range []int{symbols, terms} {
			if data, e := s.Get(root); data != empty || e != api.OK {
				t.Errorf("page %d is %q, %v", root, data, e)
			}
		}
		n := names.At(s, refs.At(s, dir, list), symbols, terms)
		if l, e := n.Symbols(); len(l) != 0 || e != api.OK {
			t.Errorf("Symbols: %v, %v", l, e)
		}
		if l, e := n.Order(); len(l) != 0 || e != api.OK {
			t.Errorf("Order: %v, %v", l, e)
		}
		if l, e := n.Names(); len(l) != 0 || e != api.OK {
			t.Errorf("Names: %v, %v", l, e)
		}
	}
	// None is free, then one.
	want(t, s.Commit(), api.OK)
	for free := range 2 {
		if s.Free() != free {
			t.Fatalf("%d pages are free", s.Free())
		}
		taken := s.Taken()
		if symbols, terms, e := names.New(s); symbols != 0 || terms != 0 || e != api.ErrFull {
			t.Errorf("New on a full disk: %d, %d, %v", symbols, terms, e)
		}
		s.Undo()
		if !slices.Equal(s.Taken(), taken) {
			t.Errorf("taken are %v, want %v", s.Taken(), taken)
		}
		if free == 0 {
			want(t, s.Release(60), api.OK)
			want(t, s.Commit(), api.OK)
		}
	}
}

// failing: all calls that ask for these answer this error, and nothing beside it.
func failing(t *testing.T, n *names.Names, name string, arity int, x api.Term, errno api.Errno) {
	t.Helper()
	for call, e := range map[string]api.Errno{"Declare": n.Declare(name, arity), "Fits": n.Fits(x), "Set": n.Set(name, x)} {
		if e != errno {
			t.Errorf("%s(%q, %d, %v): %v, want %v", call, name, arity, x, e, errno)
		}
	}
	failingNames(t, n, name, errno)
	if l, e := n.Symbols(); len(l) != 0 || e != errno {
		t.Errorf("Symbols: %v, %v, want %v", l, e, errno)
	}
	if l, e := n.Order(); len(l) != 0 || e != errno {
		t.Errorf("Order: %v, %v, want %v", l, e, errno)
	}
}

func failingNames(t *testing.T, n *names.Names, name string, errno api.Errno) {
	t.Helper()
	failingName(t, n, name, errno)
	if l, e := n.Names(); len(l) != 0 || e != errno {
		t.Errorf("Names: %v, %v, want %v", l, e, errno)
	}
}

func failingName(t *testing.T, n *names.Names, name string, errno api.Errno) {
	t.Helper()
	if x, found, e := n.Get(name); len(x) != 0 || found || e != errno {
		t.Errorf("Get(%q): %v, %v, %v, want %v", name, x, found, e, errno)
	}
	if found, e := n.Forget(name); found || e != errno {
		t.Errorf("Forget(%q): %v, %v, want %v", name, found, e, errno)
	}
}

// TestNil: of a nil space or of nil terms there is nothing, and that answers ErrNil, whatever else is wrong, and nothing beside it (P18.1, R2).
func TestNil(t *testing.T) {
	if symbols, terms, e := names.New(nil); symbols != 0 || terms != 0 || e != api.ErrNil {
		t.Errorf("New: %d, %d, %v", symbols, terms, e)
	}
	none, e := space.Open(nil, 1)
	want(t, e, api.ErrNil)
	p := begin(t, 64, 2)
	all := []*names.Names{nil}
	for _, at := range []int{0, 35, 38, -1, math.MaxInt} {
		all = append(all, names.At(nil, p.r, at, at+1), names.At(p.s, nil, at, at+1), names.At(none, p.r, at, at+1), names.At(p.s, refs.At(none, 35, 37), at, at+1), names.At(nil, nil, at, at+1))
	}
	for _, n := range all {
		if n != nil {
			t.Fatal("something of nothing")
		}
		failing(t, n, "a", 0, read(t, "a"), api.ErrNil)
		failing(t, n, "X", 5, nil, api.ErrNil)
		failing(t, n, "", -1, make(api.Term, 65), api.ErrNil)
	}
	p.holdAll(t)
}

// TestNothing: nil and empty terms are one, and no terms (R3).
func TestNothing(t *testing.T) {
	p := begin(t, 64, 2)
	for _, x := range []api.Term{nil, {}, make(api.Term, 0, 9)} {
		want(t, p.setTerm(t, "x", x), api.ErrForm)
		want(t, p.n.Fits(x), api.ErrForm)
	}
	p.holdAll(t)
}

// TestDeclare: no symbol's name ahead of an arity that may not be, that ahead of one that is declared (P18.2).
func TestDeclare(t *testing.T) {
	p := begin(t, 64, 2)
	for _, c := range []struct {
		name  string
		arity int
		want  api.Errno
	}{
		{"a", 0, api.OK}, {"s", 1, api.OK}, {"g", 2, api.OK}, {"h", 3, api.OK}, {"k", 4, api.OK}, {"abcdefgh", 0, api.OK}, {"a0", 1, api.OK}, {"a9z", 1, api.OK}, {"z", 0, api.OK},
		{"", 0, api.ErrName}, {"X", 0, api.ErrName}, {"A0", 0, api.ErrName}, {"Aa", 0, api.ErrName}, {"aA", 0, api.ErrName}, {"0", 0, api.ErrName}, {"0a", 0, api.ErrName}, {"abcdefghi", 0, api.ErrName}, {"a b", 0, api.ErrName}, {" a", 0, api.ErrName}, {"a\x00", 0, api.ErrName}, {"a\n", 0, api.ErrName}, {"é", 0, api.ErrName}, {"a_", 0, api.ErrName}, {strings.Repeat("a", 300), 0, api.ErrName},
		{"X", 5, api.ErrName}, {"", -1, api.ErrName}, {"abcdefghi", 5, api.ErrName},
		{"b", 5, api.ErrArity}, {"b", -1, api.ErrArity}, {"b", math.MaxInt, api.ErrArity}, {"b", math.MinInt, api.ErrArity}, {"b", 256, api.ErrArity}, {"b", 1 << 32, api.ErrArity},
		{"a", 5, api.ErrArity}, {"s", -1, api.ErrArity},
		{"a", 0, api.ErrTwice}, {"a", 1, api.ErrTwice}, {"s", 1, api.ErrTwice}, {"s", 2, api.ErrTwice}, {"k", 4, api.ErrTwice}, {"abcdefgh", 4, api.ErrTwice},
		{"b", 4, api.OK}, {"b", 4, api.ErrTwice}, {"abcdefg", 0, api.OK}, {"aa", 2, api.OK},
	} {
		if e := p.declare(t, c.name, c.arity); e != c.want {
			t.Errorf("Declare(%q, %d): %v, want %v", c.name, c.arity, e, c.want)
		}
		p.holdAll(t)
	}
}

// TestSymbolsEntries: the symbols' tree has for each symbol its arity and how many were declared ahead of it, a byte each.
func TestSymbolsEntries(t *testing.T) {
	p := begin(t, 64, 2)
	for _, x := range []api.Symbol{{Name: "s", Arity: 1}, {Name: "g", Arity: 4}, {Name: "b"}, {Name: "aa", Arity: 3}} {
		want(t, p.n.Declare(x.Name, x.Arity), api.OK)
	}
	wantEntries(t, tree.At(p.s, 38), []api.Entry{{Key: "aa", Value: "\x03\x03"}, {Key: "b", Value: "\x00\x02"}, {Key: "g", Value: "\x04\x01"}, {Key: "s", Value: "\x01\x00"}})
	wantEntries(t, tree.At(p.s, 39), nil)
	if l, e := p.n.Order(); !slices.Equal(l, []string{"s", "g", "b", "aa"}) || e != api.OK {
		t.Errorf("Order: %v, %v", l, e)
	}
	if l, e := p.n.Symbols(); !slices.Equal(l, []api.Symbol{{Name: "aa", Arity: 3}, {Name: "b"}, {Name: "g", Arity: 4}, {Name: "s", Arity: 1}}) || e != api.OK {
		t.Errorf("Symbols: %v, %v", l, e)
	}
}

func wantEntries(t *testing.T, x *tree.Tree, want []api.Entry) {
	t.Helper()
	if l, e := x.List("", 999); !slices.Equal(l, want) || e != api.OK {
		t.Errorf("the entries are %q, %v, want %q", l, e, want)
	}
}

// TestTermsEntries: the terms' tree has for each name the address of its term, six bytes; the address is held once for each name.
func TestTermsEntries(t *testing.T) {
	p := begin(t, 64, 2)
	p.declared(t, "a/0", "b/0", "s/1")
	for _, name := range []string{"y", "x", "x0"} {
		want(t, p.n.Set(name, read(t, "s(a)")), api.OK)
	}
	want(t, p.n.Set("b", read(t, "a")), api.OK)
	address := func(s string, count int) string {
		a, _, e := p.r.Has(read(t, s))
		want(t, e, api.OK)
		if x, _, e := p.r.Nodes().Get(a); x.Count != count || e != api.OK {
			t.Errorf("%s has the count %d, %v, want %d", s, x.Count, e, count)
		}
		return bytesOf(uint64(a), 6)
	}
	sa := address("s(a)", 3)
	wantEntries(t, tree.At(p.s, 39), []api.Entry{{Key: "b", Value: address("a", 2)}, {Key: "x", Value: sa}, {Key: "x0", Value: sa}, {Key: "y", Value: sa}})
	if l, e := p.n.Names(); !slices.Equal(l, []string{"b", "x", "x0", "y"}) || e != api.OK {
		t.Errorf("Names: %v, %v", l, e)
	}
}

// declared declares symbols, each told as its name, / and its arity.
func (p *pair) declared(t testing.TB, l ...string) {
	t.Helper()
	for _, s := range l {
		want(t, p.declare(t, s[:len(s)-2], int(s[len(s)-1]-'0')), api.OK)
	}
}

// TestMostSymbols: 128 are declared, in whatever order of their names; one more is one too many, but what is wrong with it otherwise is told ahead (P18.2).
func TestMostSymbols(t *testing.T) {
	for seed := range int64(3) {
		p := begin(t, 200, 5)
		for i, j := range rand.New(rand.NewSource(seed)).Perm(128) {
			if seed == 2 {
				j = 127 - i
			}
			want(t, p.declare(t, fmt.Sprintf("n%d", j), j%5), api.OK)
			if i%20 == 0 {
				p.holdAll(t)
			}
		}
		for range 2 {
			p.holdAll(t)
			want(t, p.declare(t, "more", 0), api.ErrMany)
			want(t, p.declare(t, "n128", 4), api.ErrMany)
			want(t, p.declare(t, "n77", 4), api.ErrTwice)
			want(t, p.declare(t, "more", 5), api.ErrArity)
			want(t, p.declare(t, "N77", 0), api.ErrName)
		}
		want(t, p.n.Fits(read(t, "n1(n127(n0,n5))")), api.OK)
		want(t, p.n.Fits(read(t, "n1(n128)")), api.ErrSymbol)
	}
}

// TestFits: term.Check's errors, whatever is declared; else of the first cell that doesn't fit ErrSymbol or ErrArity (P18.2).
func TestFits(t *testing.T) {
	p := begin(t, 64, 2)
	p.declared(t, "a/0", "s/1", "g/2", "k/4")
	for _, c := range []struct {
		s    string
		want api.Errno
	}{
		{"a", api.OK}, {"X", api.OK}, {"ABC12345", api.OK}, {"s(a)", api.OK}, {"s(X)", api.OK}, {"g(X,X)", api.OK}, {"k(a,X,s(a),g(Y,s(Z)))", api.OK}, {tower(64, "s", "a"), api.OK},
		{"b", api.ErrSymbol}, {"s(b)", api.ErrSymbol}, {"b(a)", api.ErrSymbol}, {"g(a,b)", api.ErrSymbol}, {"g(X,b)", api.ErrSymbol}, {"g(b,X)", api.ErrSymbol}, {"sa", api.ErrSymbol}, {"x", api.ErrSymbol}, {tower(64, "s", "b"), api.ErrSymbol},
		{"s", api.ErrArity}, {"s(a,a)", api.ErrArity}, {"a(a)", api.ErrArity}, {"g(a)", api.ErrArity}, {"g(a,s)", api.ErrArity}, {"k(a,a,a)", api.ErrArity}, {"s(g)", api.ErrArity}, {tower(64, "s", "g"), api.ErrArity},
		{"b(s)", api.ErrSymbol}, {"s(b,a)", api.ErrArity}, {"g(b,s)", api.ErrSymbol}, {"g(s,b)", api.ErrArity}, {"g(a(b),b)", api.ErrArity}, {"g(b(s),s)", api.ErrSymbol}, {"k(X,a,b,s)", api.ErrSymbol}, {"k(X,a,s,b)", api.ErrArity},
	} {
		if e := p.n.Fits(read(t, c.s)); e != c.want {
			t.Errorf("Fits(%s): %v, want %v", c.s, e, c.want)
		}
	}
	for _, x := range noTerms(t) {
		want(t, p.n.Fits(x.x), x.want)
	}
	p.holdAll(t)
}

type noTerm struct {
	x    api.Term
	want api.Errno
}

// noTerms are terms that aren't right; some of them don't fit, too.
func noTerms(t *testing.T) []noTerm {
	t.Helper()
	big := append(read(t, tower(64, "s", "a"))[:63:63], api.Cell{Name: "s", Arity: 1}, api.Cell{Name: "a"})
	bad := slices.Clone(big)
	bad[0].Name = "Aa"
	return []noTerm{
		{nil, api.ErrForm},
		{big, api.ErrBig},
		{bad, api.ErrBig},
		{make(api.Term, 65), api.ErrBig},
		{bad[:64], api.ErrName},
		{big[:64], api.ErrForm},
		{api.Term{{Name: ""}}, api.ErrName},
		{api.Term{{Name: "abcdefghi"}}, api.ErrName},
		{api.Term{{Name: "b"}, {Name: "Aa"}}, api.ErrName},
		{api.Term{{Name: "s"}, {Name: "1"}}, api.ErrName},
		{api.Term{{Name: "b", Arity: 5}}, api.ErrArity},
		{api.Term{{Name: "b", Arity: -1}}, api.ErrArity},
		{api.Term{{Name: "X", Arity: 1}, {Name: "b"}}, api.ErrArity},
		{api.Term{{Name: "b"}, {Name: "b"}}, api.ErrForm},
		{api.Term{{Name: "g", Arity: 2}, {Name: "b"}}, api.ErrForm},
		{api.Term{{Name: "s"}, {Name: "X"}}, api.ErrForm},
	}
}

// TestSetRefuses: no symbol's name ahead of what doesn't fit, that ahead of a variable; nothing has changed (P18.3).
func TestSetRefuses(t *testing.T) {
	p := begin(t, 64, 2)
	p.declared(t, "a/0", "s/1", "g/2")
	want(t, p.set(t, "x", "s(a)"), api.OK)
	p.commit(t)
	writes := len(p.d.Log())
	for _, c := range []struct {
		name, s string
		want    api.Errno
	}{
		{"", "a", api.ErrName}, {"X", "a", api.ErrName}, {"xX", "a", api.ErrName}, {"2", "a", api.ErrName}, {"abcdefghi", "a", api.ErrName}, {"x ", "a", api.ErrName}, {"x\x00", "a", api.ErrName}, {strings.Repeat("x", 300), "a", api.ErrName},
		{"X", "b", api.ErrName}, {"X", "s", api.ErrName}, {"X", "X", api.ErrName},
		{"x", "b", api.ErrSymbol}, {"y", "b", api.ErrSymbol}, {"x", "g(X,b)", api.ErrSymbol}, {"x", "g(b,s)", api.ErrSymbol},
		{"x", "s", api.ErrArity}, {"y", "g(a)", api.ErrArity}, {"x", "g(X,s)", api.ErrArity}, {"x", "g(s,b)", api.ErrArity},
		{"x", "X", api.ErrVar}, {"y", "X", api.ErrVar}, {"x", "s(X)", api.ErrVar}, {"y", "g(a,Y)", api.ErrVar}, {"y", "g(Y,s(a))", api.ErrVar}, {"x", tower(64, "s", "Z"), api.ErrVar},
	} {
		if e := p.set(t, c.name, c.s); e != c.want {
			t.Errorf("Set(%q, %s): %v, want %v", c.name, c.s, e, c.want)
		}
	}
	for _, x := range noTerms(t) {
		want(t, p.setTerm(t, "x", x.x), x.want)
		want(t, p.setTerm(t, "y", x.x), x.want)
		want(t, p.setTerm(t, "Y", x.x), api.ErrName)
	}
	p.holdAll(t)
	want(t, p.s.Commit(), api.OK)
	if len(p.d.Log()) != writes {
		t.Error("something was written")
	}
}

// TestSet: a name has the last term, and the one that it had is let go; nobody else's is (P18.3).
func TestSet(t *testing.T) {
	p := begin(t, 64, 2)
	p.declared(t, "a/0", "b/0", "s/1", "g/2")
	waits := func(l ...string) {
		t.Helper()
		p.holdAll(t)
		var addrs []api.Addr
		for _, s := range l {
			addrs = append(addrs, p.m.address(t, s))
		}
		if w, e := p.r.Waiting(); !slices.Equal(w, addrs) || e != api.OK {
			t.Errorf("Waiting: %x, %v, want %v", w, e, l)
		}
	}
	want(t, p.set(t, "x", "s(a)"), api.OK)
	waits()
	want(t, p.set(t, "x", "s(a)"), api.OK)
	waits()
	// What the old one and the new one share doesn't come to wait.
	want(t, p.set(t, "x", "g(s(a),b)"), api.OK)
	waits()
	want(t, p.set(t, "x", "s(a)"), api.OK)
	waits("g(s(a),b)")
	want(t, p.set(t, "y", "s(a)"), api.OK)
	want(t, p.set(t, "x", "b"), api.OK)
	waits("g(s(a),b)")
	want(t, p.set(t, "y", "a"), api.OK)
	waits("g(s(a),b)")
	p.reclaim(t, 1)
	waits("s(a)")
	want(t, p.set(t, "y", "s(a)"), api.OK)
	waits("s(a)")
	p.reclaim(t, 1)
	waits()
	p.keep(t, read(t, "s(a)"))
	want(t, p.set(t, "y", "b"), api.OK)
	waits()
	// A name may be that of a symbol, or of none.
	want(t, p.set(t, "a", "b"), api.OK)
	want(t, p.set(t, "s", tower(64, "s", "a")), api.OK)
	want(t, p.set(t, "zz9", "a"), api.OK)
	waits()
	if l, e := p.n.Names(); !slices.Equal(l, []string{"a", "s", "x", "y", "zz9"}) || e != api.OK {
		t.Errorf("Names: %v, %v", l, e)
	}
}

// TestForget: whether there was one; its term is let go, nobody else's (P18.3).
func TestForget(t *testing.T) {
	p := begin(t, 64, 2)
	p.declared(t, "a/0", "s/1")
	if p.forget(t, "x") {
		t.Error("forgotten what wasn't there")
	}
	for _, name := range []string{"x", "xx", "y"} {
		want(t, p.set(t, name, "s(a)"), api.OK)
	}
	want(t, p.set(t, "z", "a"), api.OK)
	for _, name := range []string{"xx", "y", "x"} {
		if !p.forget(t, name) || p.forget(t, name) {
			t.Errorf("Forget(%s)", name)
		}
		p.holdAll(t)
		p.ask(t, name, nil)
	}
	if l, e := p.r.Waiting(); len(l) != 1 || e != api.OK {
		t.Errorf("Waiting: %x, %v", l, e)
	}
	p.reclaim(t, 9)
	if l, e := p.r.Nodes().List(); len(l) != 1 || l[0].Count != 1 || l[0].Name != "a" || e != api.OK {
		t.Errorf("left are %v, %v", l, e)
	}
	want(t, p.set(t, "x", "s(s(a))"), api.OK)
	p.holdAll(t)
}

// TestOddNames: names that no Set takes have never a term, and are no error elsewhere.
func TestOddNames(t *testing.T) {
	p := begin(t, 64, 2)
	for range 2 {
		for _, name := range []string{"", "X", "x ", "x\x00", "\x00", "\xff", "abcdefghi", strings.Repeat("x", 33), strings.Repeat("x", 70000), "a", "xx", "w"} {
			p.ask(t, name, nil)
			if p.forget(t, name) {
				t.Errorf("%q is forgotten", name)
			}
		}
		p.holdAll(t)
		if _, there := p.m.arity("a"); !there {
			p.declared(t, "a/0", "w/0")
			want(t, p.set(t, "x", "a"), api.OK)
		}
	}
}

// TestMostNames: 64 names; one more is one too many, but what is wrong with it otherwise is told ahead; those that are there may have other terms (P18.3).
func TestMostNames(t *testing.T) {
	for seed := range int64(3) {
		p := begin(t, 200, 5)
		p.declared(t, "a/0", "b/0", "s/1", "g/2")
		for i, j := range rand.New(rand.NewSource(seed)).Perm(64) {
			want(t, p.set(t, fmt.Sprintf("n%d", j), tower(1+j%9, "s", "a")), api.OK)
			if i%20 == 0 {
				p.holdAll(t)
			}
		}
		p.commit(t)
		writes := len(p.d.Log())
		want(t, p.set(t, "more", "a"), api.ErrMany)
		want(t, p.set(t, "n64", "s(new)"), api.ErrSymbol)
		want(t, p.set(t, "n64", "s(s)"), api.ErrArity)
		want(t, p.set(t, "n64", "s(X)"), api.ErrVar)
		want(t, p.set(t, "N6", "a"), api.ErrName)
		want(t, p.set(t, "n64", "g(a,s(b))"), api.ErrMany)
		want(t, p.s.Commit(), api.OK)
		if len(p.d.Log()) != writes {
			t.Error("something was written")
		}
		want(t, p.set(t, "n63", "g(a,s(b))"), api.OK)
		want(t, p.set(t, "n0", "b"), api.OK)
		p.holdAll(t)
		want(t, p.set(t, "more", "a"), api.ErrMany)
		p.forget(t, "more")
		want(t, p.set(t, "more", "a"), api.ErrMany)
		p.forget(t, "n7")
		want(t, p.set(t, "more", "a"), api.OK)
		want(t, p.set(t, "n7", "a"), api.ErrMany)
		p.holdAll(t)
	}
}

// TestLooks: calls that only look, those that are refused, and a Forget of nothing write nothing.
func TestLooks(t *testing.T) {
	p := begin(t, 64, 1)
	p.declared(t, "a/0", "s/1")
	want(t, p.set(t, "x", "s(a)"), api.OK)
	p.commit(t)
	writes := len(p.d.Log())
	p.holdAll(t)
	p.ask(t, "y", read(t, "s(X)"))
	p.forget(t, "y")
	want(t, p.declare(t, "a", 1), api.ErrTwice)
	want(t, p.declare(t, "b", 5), api.ErrArity)
	want(t, p.set(t, "x", "b"), api.ErrSymbol)
	want(t, p.s.Commit(), api.OK)
	if len(p.d.Log()) != writes {
		t.Error("something was written")
	}
}

// TestGreatestCount: where a term has been held so often that once more is one too many, a Set of it is refused, and nothing has changed.
func TestGreatestCount(t *testing.T) {
	p := begin(t, 64, 2)
	p.declared(t, "a/0", "s/1")
	want(t, p.set(t, "x", "s(a)"), api.OK)
	want(t, p.set(t, "y", "a"), api.OK)
	for _, r := range []*refs.Refs{p.r, p.m.r} {
		a, _, _ := r.Has(read(t, "a"))
		x, _, e := r.Nodes().Get(a)
		want(t, e, api.OK)
		x.Count = math.MaxUint32
		want(t, r.Nodes().Set(x), api.OK)
	}
	// The last one has a itself, and lets it go.
	for _, name := range []string{"x", "z", "y"} {
		want(t, p.n.Set(name, read(t, "a")), api.ErrMany)
		want(t, p.n.Set(name, read(t, "s(s(a))")), api.OK)
		want(t, p.m.set(t, name, read(t, "s(s(a))")), api.OK)
		p.holdPages(t)
	}
}

// TestLetGoByOthers: whoever lets go what only a name holds has taken it away from that. Then the errors of the terms are answered, as they are met, and nothing has changed.
func TestLetGoByOthers(t *testing.T) {
	for _, gone := range []api.Errno{api.ErrRange, api.ErrNone} {
		p := begin(t, 64, 2)
		p.declared(t, "a/0", "b/0", "s/1")
		want(t, p.set(t, "x", "s(a)"), api.OK)
		want(t, p.set(t, "y", "b"), api.OK)
		for _, r := range []*refs.Refs{p.r, p.m.r} {
			want(t, r.Drop(p.m.address(t, "s(a)")), api.OK)
		}
		if gone == api.ErrNone {
			p.reclaim(t, 9)
			failingName(t, p.n, "x", gone)
		}
		want(t, p.n.Set("x", read(t, "s(b)")), gone)
		if found, e := p.n.Forget("x"); found || e != gone {
			t.Errorf("Forget: %v, %v, want %v", found, e, gone)
		}
		p.holdPages(t)
		if l, e := p.n.Names(); !slices.Equal(l, []string{"x", "y"}) || e != api.OK {
			t.Errorf("Names: %v, %v", l, e)
		}
		p.forget(t, "y")
		p.holdPages(t)
	}
}

// TestSpaceErrors: an error of the space is answered as it is met, and nothing beside it, but errors that are named ahead of it (P18.1, R2).
func TestSpaceErrors(t *testing.T) {
	p := begin(t, 64, 2)
	p.declared(t, "a/0")
	want(t, p.set(t, "x", "a"), api.OK)
	for at, errno := range map[int]api.Errno{-1: api.ErrRange, 0: api.ErrRange, 34: api.ErrRange, 64: api.ErrRange, math.MaxInt: api.ErrRange, 50: api.ErrNone, 63: api.ErrNone} {
		n := names.At(p.s, p.r, at, at)
		failing(t, n, "a", 0, read(t, "a"), errno)
		want(t, n.Declare("A", 5), api.ErrName)
		want(t, n.Declare("a", 5), api.ErrArity)
		want(t, n.Fits(nil), api.ErrForm)
		want(t, n.Set("X", nil), api.ErrName)
		want(t, n.Set("x", nil), api.ErrForm)
		failingNames(t, names.At(p.s, p.r, 38, at), "a", errno)
		n = names.At(p.s, p.r, 38, at)
		want(t, n.Set("x", read(t, "a")), errno)
		want(t, n.Set("x", read(t, "b")), api.ErrSymbol)
		// The terms lie elsewhere.
		n = names.At(p.s, refs.At(p.s, at, at), 38, 39)
		want(t, n.Set("x", read(t, "a")), errno)
		want(t, n.Set("y", read(t, "a")), errno)
		failingName(t, n, "x", errno)
	}
	p.holdAll(t)
}

// TestOtherPages: of pages that are none of these nothing is promised but what costs nothing: that the calls end, and don't panic.
func TestOtherPages(t *testing.T) {
	for _, front := range []string{"", "\x01", "\x01\x01\x01a\x00", "\x01\x01\x01a\x01\x05", "\x01\x01\x01x\x06\x00\x00\x00\x00\x00\x00", "\x01\x01\x01x\x06\xff\xff\xff\xff\xff\xff", "\x02", "\x02\x01\x01a\x02\x00\x27", "\x02\x01\x00\x02\x00\x00", "\x03", "\x04", "\x05", "\xff\xff"} {
		p := begin(t, 64, 2)
		p.declared(t, "a/0")
		want(t, p.set(t, "x", "a"), api.OK)
		at, e := p.s.Alloc()
		want(t, e, api.OK)
		want(t, p.s.Put(at, front+strings.Repeat("\x00", 256-len(front))), api.OK)
		for _, n := range []*names.Names{names.At(p.s, p.r, at, at), names.At(p.s, p.r, 38, at), names.At(p.s, p.r, at, 39), names.At(p.s, refs.At(p.s, at, at), 38, 39), names.At(p.s, p.r, 39, 38)} {
			n.Symbols()
			n.Order()
			n.Names()
			n.Fits(read(t, "a"))
			n.Get("x")
			n.Declare("a", 1)
			n.Set("x", read(t, "a"))
			n.Forget("a")
			n.Forget("x")
		}
	}
}

// TestFull: a disk without a free page refuses what takes one, and behind Undo all is as it was; what takes none goes on.
func TestFull(t *testing.T) {
	t.Parallel()
	declares := 0
	for i := range 24 {
		r := rand.New(rand.NewSource(int64(i)))
		p := begin(t, 64, 3)
		for range i {
			_, e := p.s.Alloc()
			want(t, e, api.OK)
			_, e = p.m.s.Alloc()
			want(t, e, api.OK)
		}
		p.declared(t, "a/0", "b/0", "c/0", "d/0", "s/1", "g/2")
		p.commit(t)
		full := map[string]int{}
		for j := range 60 {
			name := fmt.Sprintf("n%d", r.Intn(90))
			if j%2 == 0 {
				word := fmt.Sprintf("symbol%d", j)
				p.tryFull(t, full, "declare", func() api.Errno { return p.n.Declare(word, j%5) }, func() { p.declare(t, word, j%5) })
				continue
			}
			x := read(t, tower(20+r.Intn(20), "s", "g(a,s("+string("abcd"[r.Intn(4)])+"))"))
			p.tryFull(t, full, "set", func() api.Errno { return p.n.Set(name, x) }, func() { p.setTerm(t, name, x) })
		}
		if full["set"] == 0 {
			t.Error("the disk wasn't full")
		}
		declares += full["declare"]
		for _, name := range p.m.names() {
			p.forget(t, name)
			p.holdAll(t)
		}
		for !p.reclaim(t, 50) {
			p.holdAll(t)
		}
		p.holdAll(t)
	}
	if declares == 0 {
		t.Error("no Declare met a full disk")
	}
}

// tryFull tries a call, undoes it, and does it again with the model, if the disk had room.
func (p *pair) tryFull(t *testing.T, full map[string]int, what string, try func() api.Errno, again func()) {
	t.Helper()
	e := try()
	p.s.Undo()
	if e == api.ErrFull {
		p.holdAll(t)
		full[what]++
		return
	}
	p.holdPages(t)
	again()
	p.commit(t)
}
