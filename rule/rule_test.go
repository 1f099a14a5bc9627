package rule_test

import (
	"math"
	"math/rand"
	"slices"
	"strconv"
	"strings"
	"testing"
	"unsafe"

	"aumbry/api"
	"aumbry/rule"
	"aumbry/term"
)

const no = "no"

func read(t *testing.T, s string) api.Term {
	t.Helper()
	x, _, e := term.Parse(s)
	if e != api.OK {
		t.Fatalf("the test's own %s: %v", s, e)
	}
	return x
}

// readRule reads a rule as "g(X,Y) -> X", right or not, if only its sides are terms.
func readRule(t *testing.T, id int, s string) api.Rule {
	t.Helper()
	left, right, _ := strings.Cut(s, " -> ")
	return api.Rule{ID: id, Left: read(t, left), Right: read(t, right)}
}

// tower is the text of n cells within one another, the last one's name last.
func tower(n int, last string) string {
	return strings.Repeat("s(", n-1) + last + strings.Repeat(")", n-1)
}

func sameRule(a, b api.Rule) bool {
	return a.ID == b.ID && slices.Equal(a.Left, b.Left) && slices.Equal(a.Right, b.Right)
}

func variable(c api.Cell) bool { return c.Name[0] >= 'A' && c.Name[0] <= 'Z' }

// variables answers each variable of a right term, as often as it stands there.
func variables(t api.Term) []string {
	var l []string
	for _, c := range t {
		if variable(c) {
			l = append(l, c.Name)
		}
	}
	return l
}

// modelCheck asks for every fault of the chapter's sentence by itself, in its order.
func modelCheck(r api.Rule) api.Errno {
	left, right := term.Check(r.Left), term.Check(r.Right)
	switch {
	case r.ID != int(uint16(r.ID)):
		return api.ErrRange
	case left != api.OK:
		return left
	case right != api.OK:
		return right
	case len(r.Left) >= 9, len(r.Right) >= 9:
		return api.ErrBig
	case len(r.Left) == len(variables(r.Left)):
		return api.ErrRule
	}
	for _, v := range variables(r.Right) {
		if !slices.Contains(variables(r.Left), v) {
			return api.ErrVar
		}
	}
	return api.OK
}

// alike reports whether two rules differ in their variables' names alone: each name of the one stands for one name of the other, and the other way round.
func alike(a, b api.Rule) bool {
	if len(a.Left) != len(b.Left) || len(a.Right) != len(b.Right) {
		return false
	}
	there, back := map[string]string{}, map[string]string{}
	one, other := slices.Concat(a.Left, a.Right), slices.Concat(b.Left, b.Right)
	for i, c := range one {
		d := other[i]
		if !variable(c) || !variable(d) {
			if c != d {
				return false
			}
			continue
		}
		if v, ok := there[c.Name]; ok && v != d.Name {
			return false
		}
		if v, ok := back[d.Name]; ok && v != c.Name {
			return false
		}
		there[c.Name], back[d.Name] = d.Name, c.Name
	}
	return true
}

// take answers the term that l begins with, and what stands behind it.
func take(l api.Term) (api.Term, api.Term) {
	n := 1
	for missing := l[0].Arity; missing > 0; n++ {
		missing += l[n].Arity - 1
	}
	return l[:n], l[n:]
}

// modelApply goes down both terms together, and notes where a variable stands what is there as text; then it writes the right side's text with these, of which term.Parse tells the cells, or that they are too many.
func modelApply(r api.Rule, t api.Term) (api.Term, bool, api.Errno) {
	if e := modelCheck(r); e != api.OK {
		return nil, false, e
	}
	if e := term.Check(t); e != api.OK {
		return nil, false, e
	}
	values := map[string]string{}
	var fits func(p, t api.Term) bool
	fits = func(p, t api.Term) bool {
		if variable(p[0]) {
			text, _ := term.Print(t)
			old, ok := values[p[0].Name]
			values[p[0].Name] = text
			return !ok || old == text
		}
		if p[0] != t[0] {
			return false
		}
		p, t = p[1:], t[1:]
		for len(p) > 0 {
			var part, piece api.Term
			part, p = take(p)
			piece, t = take(t)
			if !fits(part, piece) {
				return false
			}
		}
		return true
	}
	if !fits(r.Left, t) {
		return nil, false, api.OK
	}
	var write func(p api.Term) string
	write = func(p api.Term) string {
		if variable(p[0]) {
			return values[p[0].Name]
		}
		if len(p) == 1 {
			return p[0].Name
		}
		var kids []string
		for rest := p[1:]; len(rest) > 0; {
			var part api.Term
			part, rest = take(rest)
			kids = append(kids, write(part))
		}
		return p[0].Name + "(" + strings.Join(kids, ",") + ")"
	}
	made, _, e := term.Parse(write(r.Right))
	if e == api.ErrLong {
		// No term of 64 cells has so long a text.
		e = api.ErrBig
	}
	return made, e == api.OK, e
}

func holdCheck(t *testing.T, r api.Rule, want api.Errno) {
	t.Helper()
	if m := modelCheck(r); m != want {
		t.Fatalf("the test's own %v: %v by the model, want %v", r, m, want)
	}
	for range 2 {
		if e := rule.Check(r); e != want {
			t.Errorf("Check(%v) = %v, want %v", r, e, want)
		}
	}
}

func holdApply(t *testing.T, r api.Rule, x api.Term) {
	t.Helper()
	want, fits, wantE := modelApply(r, x)
	for range 2 {
		if y, ok, e := rule.Apply(r, x); !slices.Equal(y, want) || ok != fits || e != wantE {
			t.Errorf("Apply(%v, %v) = %v, %v, %v, want %v, %v, %v", r, x, y, ok, e, want, fits, wantE)
		}
	}
}

// fault is a list of cells that is no right term, with the error that it is to have.
type fault struct {
	t api.Term
	e api.Errno
}

// wrong are faults of every kind.
func wrong() map[string]fault {
	a := api.Cell{Name: "a"}
	return map[string]fault{
		"no list": {nil, api.ErrForm}, "no cells": {api.Term{}, api.ErrForm}, "a cell too few": {api.Term{{Name: "s", Arity: 1}}, api.ErrForm}, "a cell too many": {api.Term{a, a}, api.ErrForm}, "a variable and a cell": {api.Term{{Name: "X"}, a}, api.ErrForm}, "9 cells that are 9 terms": {slices.Repeat(api.Term{a}, 9), api.ErrForm},
		"no name": {api.Term{{}}, api.ErrName}, "no right name": {api.Term{{Name: "aX"}}, api.ErrName}, "no right name deep inside": {api.Term{{Name: "s", Arity: 1}, {Name: "1"}}, api.ErrName},
		"arity -1": {api.Term{{Name: "a", Arity: -1}}, api.ErrArity}, "arity 5": {append(api.Term{{Name: "a", Arity: 5}}, slices.Repeat(api.Term{a}, 5)...), api.ErrArity}, "a variable over one": {api.Term{{Name: "X", Arity: 1}, a}, api.ErrArity}, "a great arity": {api.Term{{Name: "a", Arity: math.MaxInt}}, api.ErrArity}, "a least arity": {api.Term{{Name: "X", Arity: math.MinInt}}, api.ErrArity},
		"65 cells": {append(slices.Repeat(api.Term{{Name: "s", Arity: 1}}, 64), a), api.ErrBig}, "65 empty cells": {make(api.Term, 65), api.ErrBig},
	}
}

// wrongRules are rules that aren't right, for each place in Check's sentence at least one.
func wrongRules(t *testing.T) map[string]api.Rule {
	l := map[string]api.Rule{
		"ID -1": readRule(t, -1, "f(X) -> X"), "ID 65536": readRule(t, 65536, "f(X) -> X"), "the least ID": readRule(t, math.MinInt, "f(X) -> X"), "the greatest ID": readRule(t, math.MaxInt, "f(X) -> X"), "ID 2^32": readRule(t, 1<<32, "f(X) -> X"),
		"9 cells on the left": readRule(t, 0, tower(9, "X")+" -> X"), "9 cells on the right": readRule(t, 0, "f(X) -> "+tower(9, "X")), "64 cells on both sides": readRule(t, 0, tower(64, "X")+" -> "+tower(64, "X")),
		"a variable on the left": readRule(t, 0, "X -> a"), "a variable on both sides": readRule(t, 0, "X -> X"), "a variable that is nowhere on the left": readRule(t, 0, "f(X) -> g(X,Y)"),
		"nothing": {},
	}
	for what, bad := range wrong() {
		l[what+" on the left"] = api.Rule{ID: 1, Left: bad.t, Right: read(t, "a")}
		l[what+" on the right"] = api.Rule{ID: 1, Left: read(t, "f(X)"), Right: bad.t}
	}
	return l
}

// rightRules are rules of many shapes.
func rightRules(t *testing.T) []api.Rule {
	var l []api.Rule
	for i, s := range []string{
		"a -> a", "a -> b", "f(X) -> X", "f(X) -> a", "g(X,s(Y)) -> s(g(X,Y))", "g(B,A) -> A", "g(X,X) -> X", "g(X1,X0) -> h(X0,X1,X0,X1)", "plus(zero,X) -> X", "f(X) -> f(f(X))", "h(D,C,B,A) -> h(A,B,C,D)", "h(A,B,C,h(D,E,F)) -> h(F,E,D,h(C,B,A))",
		tower(8, "X") + " -> X", "f(X) -> " + tower(8, "X"), tower(8, "a") + " -> " + tower(8, "b"), "f(ABCDEFGH) -> abcdefgh(ABCDEFGH)", "a -> " + tower(8, "a"),
	} {
		l = append(l, readRule(t, []int{0, 1, 65535, 256, 7}[i%5], s))
	}
	return l
}

func TestExamples(t *testing.T) {
	r, e := rule.Parse("g(X,s(Y))", "s(g(X,Y))")
	if !sameRule(r, readRule(t, 0, "g(X,s(Y)) -> s(g(X,Y))")) || e != api.OK || rule.Head(r) != "g" {
		t.Errorf("Parse: %v, %v, its head %q", r, e, rule.Head(r))
	}
	if p, e := rule.Plain(readRule(t, 0, "g(B,A) -> A")); !sameRule(p, readRule(t, 0, "g(X0,X1) -> X1")) || e != api.OK {
		t.Errorf("Plain: %v, %v", p, e)
	}
	if r, e := rule.Parse("X", "a"); !sameRule(r, api.Rule{}) || e != api.ErrRule {
		t.Errorf("Parse(X, a) = %v, %v", r, e)
	}
	if r, e := rule.Parse("a", "X"); !sameRule(r, api.Rule{}) || e != api.ErrVar {
		t.Errorf("Parse(a, X) = %v, %v", r, e)
	}
	if y, ok, e := rule.Apply(r, read(t, "g(a,s(b))")); !slices.Equal(y, read(t, "s(g(a,b))")) || !ok || e != api.OK {
		t.Errorf("Apply: %v, %v, %v", y, ok, e)
	}
}

func TestCheckIDs(t *testing.T) {
	for id, want := range map[int]api.Errno{math.MinInt: api.ErrRange, -65536: api.ErrRange, -1: api.ErrRange, 0: api.OK, 1: api.OK, 255: api.OK, 256: api.OK, 65534: api.OK, 65535: api.OK, 65536: api.ErrRange, 65537: api.ErrRange, 1 << 32: api.ErrRange, math.MaxInt: api.ErrRange} {
		holdCheck(t, readRule(t, id, "g(X,Y) -> X"), want)
	}
}

// TestCheckSides: sides of every size, with variables and without.
func TestCheckSides(t *testing.T) {
	for left := 1; left <= 64; left++ {
		for right := 1; right <= 64; right++ {
			want := api.OK
			if left > 8 || right > 8 {
				want = api.ErrBig
			}
			holdCheck(t, readRule(t, 1, tower(left, "a")+" -> "+tower(right, "a")), want)
			if left > 1 {
				holdCheck(t, readRule(t, 1, tower(left, "X")+" -> "+tower(right, "X")), want)
			}
		}
	}
	for s, want := range map[string]api.Errno{
		"h(A,B,C,h(D,E,F)) -> h(A,B,C,h(D,E,F))": api.OK, "h(A,B,C,h(D,E,F,G)) -> A": api.ErrBig, "h(A,B,C,D) -> h(A,B,C,h(A,B,C))": api.OK, "h(A,B,C,D) -> h(A,B,C,h(A,B,C,D))": api.ErrBig,
	} {
		holdCheck(t, readRule(t, 1, s), want)
	}
	big := wrong()["65 cells"].t
	for _, x := range []api.Term{read(t, "a"), read(t, tower(8, "a")), read(t, tower(9, "a")), read(t, tower(64, "a")), read(t, "X"), big} {
		holdCheck(t, api.Rule{Left: big, Right: x}, api.ErrBig)
		holdCheck(t, api.Rule{Left: x, Right: big}, api.ErrBig)
	}
}

// TestCheckWrongSides: what is wrong with Left is told ahead of what is wrong with Right, and both behind a wrong ID and ahead of all else.
func TestCheckWrongSides(t *testing.T) {
	for _, bad := range wrong() {
		for _, s := range []string{"a", "s(X)", tower(8, "a"), tower(9, "a"), tower(64, "Y"), "X", "Y"} {
			holdCheck(t, api.Rule{Left: bad.t, Right: read(t, s)}, bad.e)
			holdCheck(t, api.Rule{Left: read(t, s), Right: bad.t}, bad.e)
			holdCheck(t, api.Rule{ID: -1, Left: bad.t, Right: read(t, s)}, api.ErrRange)
			holdCheck(t, api.Rule{ID: 65536, Left: read(t, s), Right: bad.t}, api.ErrRange)
		}
		for _, other := range wrong() {
			holdCheck(t, api.Rule{ID: 65535, Left: bad.t, Right: other.t}, bad.e)
			holdCheck(t, api.Rule{ID: 65536, Left: bad.t, Right: other.t}, api.ErrRange)
		}
	}
}

func TestCheckVariables(t *testing.T) {
	for s, want := range map[string]api.Errno{
		// Left is a variable.
		"X -> a": api.ErrRule, "X -> X": api.ErrRule, "X -> s(X)": api.ErrRule, "X0 -> a": api.ErrRule, "ABCDEFGH -> a": api.ErrRule,
		// Right's variables.
		"a -> X": api.ErrVar, "f(X) -> Y": api.ErrVar, "f(X) -> g(X,Y)": api.ErrVar, "f(X) -> g(Y,X)": api.ErrVar, "f(X) -> X1": api.ErrVar, "f(X1) -> X": api.ErrVar, "f(a) -> s(s(s(X)))": api.ErrVar, "h(A,B,C,D) -> h(A,B,C,E)": api.ErrVar, "x(a) -> X": api.ErrVar, "f(XX) -> X": api.ErrVar,
		"f(X) -> X": api.OK, "f(X) -> a": api.OK, "f(X) -> g(X,X)": api.OK, "g(X,Y) -> g(Y,X)": api.OK, "g(X,Y) -> Y": api.OK, "g(X,X) -> X": api.OK, "h(A,B,C,D) -> h(D,C,B,A)": api.OK, "s(s(s(s(X)))) -> X": api.OK, "a -> a": api.OK, "x -> x": api.OK, "h(a,b,c,s(X)) -> X": api.OK,
		// Of several faults the first.
		"X -> Y": api.ErrRule, "X -> g(X,Y)": api.ErrRule, "X -> " + tower(8, "Y"): api.ErrRule, "X -> " + tower(9, "a"): api.ErrBig, "X -> " + tower(9, "Y"): api.ErrBig, "f(X) -> " + tower(8, "Y"): api.ErrVar, "f(X) -> " + tower(9, "Y"): api.ErrBig, tower(9, "X") + " -> Y": api.ErrBig, tower(64, "X") + " -> " + tower(64, "Y"): api.ErrBig,
	} {
		holdCheck(t, readRule(t, 0, s), want)
		holdCheck(t, readRule(t, 65535, s), want)
		holdCheck(t, readRule(t, 65536, s), api.ErrRange)
		holdCheck(t, readRule(t, -1, s), api.ErrRange)
	}
}

func TestParse(t *testing.T) {
	for _, r := range rightRules(t) {
		left, _ := term.Print(r.Left)
		right, _ := term.Print(r.Right)
		r.ID = 0
		for range 2 {
			if p, e := rule.Parse(left, right); !sameRule(p, r) || e != api.OK {
				t.Errorf("Parse(%q, %q) = %v, %v", left, right, p, e)
			}
		}
	}
}

func TestParseFaults(t *testing.T) {
	long, wide := strings.Repeat("a", 1025), strings.Repeat("a", 1024)
	for _, c := range []struct {
		left, right string
		want        api.Errno
	}{
		// Each side's own faults.
		{"", "a", api.ErrForm}, {"a", "", api.ErrForm}, {"f(", "a", api.ErrForm}, {"a", "f(", api.ErrForm}, {"f()", "a", api.ErrForm}, {"a", "a b", api.ErrForm}, {" a", "a", api.ErrForm}, {"a", "a ", api.ErrForm}, {"a -> b", "b", api.ErrForm}, {"a", "-> b", api.ErrForm}, {"f(X)", "X)", api.ErrForm},
		{"fX", "a", api.ErrName}, {"a", "fX", api.ErrName}, {"abcdefghi", "a", api.ErrName}, {"a", "0", api.ErrName}, {wide, "a", api.ErrName}, {"a", wide, api.ErrName},
		{"X(a)", "a", api.ErrArity}, {"f(X)", "X(a)", api.ErrArity}, {"f(a,a,a,a,a)", "a", api.ErrArity}, {"a", "f(a,a,a,a,a)", api.ErrArity},
		{long, "a", api.ErrLong}, {"a", long, api.ErrLong}, {tower(65, "a"), "a", api.ErrBig}, {"a", tower(65, "a"), api.ErrBig},
		// Those of left first.
		{"f(", "fX", api.ErrForm}, {"fX", "f(", api.ErrName}, {"X(a)", long, api.ErrArity}, {long, "X(a)", api.ErrLong}, {tower(65, "a"), "fX", api.ErrBig}, {"fX", tower(65, "a"), api.ErrName}, {"", long, api.ErrForm}, {long, "", api.ErrLong},
		// What is read, but is no right rule.
		{"X", "a", api.ErrRule}, {"X", "X", api.ErrRule}, {"X", "Y", api.ErrRule}, {"a", "X", api.ErrVar}, {"f(X)", "g(X,Y)", api.ErrVar}, {tower(9, "X"), "X", api.ErrBig}, {"f(X)", tower(9, "X"), api.ErrBig}, {tower(64, "a"), "a", api.ErrBig}, {"a", tower(64, "a"), api.ErrBig}, {"X", tower(9, "Y"), api.ErrBig},
		// A fault of a text ahead of these.
		{"X", "", api.ErrForm}, {"X", "fX", api.ErrName}, {"X", "Y(a)", api.ErrArity}, {"X", long, api.ErrLong}, {tower(9, "a"), "f(", api.ErrForm}, {tower(64, "a"), "fX", api.ErrName}, {"fX", "X", api.ErrName}, {"f(", tower(9, "X"), api.ErrForm},
		// Any bytes.
		{"\x00", "a", api.ErrForm}, {"a", "\xff", api.ErrForm}, {"é", "a", api.ErrForm}, {"a", "aé", api.ErrForm}, {"a\n", "a", api.ErrForm},
	} {
		for range 2 {
			if r, e := rule.Parse(c.left, c.right); !sameRule(r, api.Rule{}) || e != c.want {
				t.Errorf("Parse(%.40q, %.40q) = %v, %v, want %v", c.left, c.right, r, e, c.want)
			}
		}
	}
}

// TestEveryShortText holds Parse against its sentence at every pair of short texts.
func TestEveryShortText(t *testing.T) {
	texts := []string{""}
	for from := 0; len(texts[from]) < 4; from++ {
		for _, c := range "aX(,) " {
			texts = append(texts, texts[from]+string(c))
		}
	}
	// A side of each kind is paired with every text: all pairs would be too many.
	some := []string{"", "a", "X", "a(X)", "a(", "aX", "X(a)", "a,", "a(a,X)", tower(9, "X"), strings.Repeat("a", 1025)}
	hold := func(left, right string) {
		l, _, want := term.Parse(left)
		r, _, e := term.Parse(right)
		if want == api.OK {
			want = e
		}
		if want == api.OK {
			want = modelCheck(api.Rule{Left: l, Right: r})
		}
		made := api.Rule{}
		if want == api.OK {
			made = api.Rule{Left: l, Right: r}
		}
		if p, e := rule.Parse(left, right); !sameRule(p, made) || e != want {
			t.Errorf("Parse(%q, %q) = %v, %v, want %v, %v", left, right, p, e, made, want)
		}
	}
	for _, s := range texts {
		for _, o := range some {
			hold(s, o)
			hold(o, s)
		}
	}
}

func TestPrint(t *testing.T) {
	for _, s := range []string{"a -> b", "g(X,s(Y)) -> s(g(X,Y))", "f(X) -> X", "g(B,A) -> A", "h(X1,X0,X1,a) -> h(X0,X0,b,X1)", "f(ABCDEFGH) -> abcdefgh(ABCDEFGH)", tower(8, "X") + " -> " + tower(8, "X"), "h(a,b,c,h(a,b,c)) -> h(c,b,a,h(c,b,a))"} {
		for _, id := range []int{0, 1, 65535} {
			for range 2 {
				if p, e := rule.Print(readRule(t, id, s)); p != s || e != api.OK {
					t.Errorf("Print of %s with the ID %d: %q, %v", s, id, p, e)
				}
			}
		}
	}
	for _, r := range rightRules(t) {
		s, _ := rule.Print(r)
		left, right, ok := strings.Cut(s, " -> ")
		r.ID = 0
		if p, e := rule.Parse(left, right); !ok || !sameRule(p, r) || e != api.OK {
			t.Errorf("Parse of Print of %v: %q, %v, %v", r, s, p, e)
		}
	}
}

func TestPlain(t *testing.T) {
	for _, c := range []struct{ s, want string }{
		{"a -> b", "a -> b"}, {"f(X) -> X", "f(X0) -> X0"}, {"f(X) -> a", "f(X0) -> a"}, {"f(X0) -> X0", "f(X0) -> X0"}, {"x(X) -> x0", "x(X0) -> x0"}, {"f(ABCDEFGH) -> s(ABCDEFGH)", "f(X0) -> s(X0)"},
		// In any order, and in several places.
		{"g(B,A) -> A", "g(X0,X1) -> X1"}, {"g(B,A) -> B", "g(X0,X1) -> X0"}, {"g(A,B) -> g(B,A)", "g(X0,X1) -> g(X1,X0)"}, {"g(X,X) -> X", "g(X0,X0) -> X0"}, {"h(Y,X,Y,Z) -> h(Z,Y,X,Z)", "h(X0,X1,X0,X2) -> h(X2,X0,X1,X2)"}, {"g(s(Y),g(X,Y)) -> g(X,Y)", "g(s(X0),g(X1,X0)) -> g(X1,X0)"}, {"h(D,C,B,A) -> h(A,B,C,D)", "h(X0,X1,X2,X3) -> h(X3,X2,X1,X0)"},
		{"h(A,B,C,h(D,E,F)) -> h(F,E,D,h(C,B,A))", "h(X0,X1,X2,h(X3,X4,X5)) -> h(X5,X4,X3,h(X2,X1,X0))"},
		// Right tells nothing of the order.
		{"g(A,B) -> B", "g(X0,X1) -> X1"}, {"h(a,B,b,A) -> g(A,B)", "h(a,X0,b,X1) -> g(X1,X0)"},
		// Plain names that are there already, in another order or of others.
		{"g(X1,X0) -> X1", "g(X0,X1) -> X0"}, {"g(X1,X0) -> X0", "g(X0,X1) -> X1"}, {"g(X1,X0) -> g(X0,X1)", "g(X0,X1) -> g(X1,X0)"}, {"g(X0,X1) -> X1", "g(X0,X1) -> X1"}, {"f(X1) -> X1", "f(X0) -> X0"}, {"g(A,X0) -> g(X0,A)", "g(X0,X1) -> g(X1,X0)"}, {"g(X1,A) -> g(A,X1)", "g(X0,X1) -> g(X1,X0)"}, {"h(X1,X2,X0,X1) -> h(X0,X1,X2,X0)", "h(X0,X1,X2,X0) -> h(X2,X0,X1,X2)"}, {"h(X2,X1,X0,X3) -> X2", "h(X0,X1,X2,X3) -> X0"}, {"g(X00,X) -> X", "g(X0,X1) -> X1"},
	} {
		for _, id := range []int{0, 7, 65535} {
			for range 2 {
				if p, e := rule.Plain(readRule(t, id, c.s)); !sameRule(p, readRule(t, id, c.want)) || e != api.OK {
					t.Errorf("Plain of %s with the ID %d: %v, %v, want %s", c.s, id, p, e, c.want)
				}
			}
			if p, e := rule.Plain(readRule(t, id, c.want)); !sameRule(p, readRule(t, id, c.want)) || e != api.OK {
				t.Errorf("Plain of the plain %s: %v, %v", c.want, p, e)
			}
		}
	}
}

func TestHead(t *testing.T) {
	for s, want := range map[string]string{"a -> b": "a", "g(X,s(Y)) -> s(g(X,Y))": "g", "abcdefgh(X) -> X": "abcdefgh", "f(f(X)) -> b": "f", "plus2(zero,X) -> X": "plus2", tower(8, "X") + " -> X": "s"} {
		for _, id := range []int{0, 1, 65535} {
			if h := rule.Head(readRule(t, id, s)); h != want {
				t.Errorf("Head of %s: %q", s, h)
			}
		}
	}
}

// TestWrongRules: Check's error, and nothing beside it, by every call, whatever term Apply looks at.
func TestWrongRules(t *testing.T) {
	terms := []api.Term{read(t, "a"), read(t, "f(a)"), read(t, "X"), read(t, tower(64, "a"))}
	for _, bad := range wrong() {
		terms = append(terms, bad.t)
	}
	for what, r := range wrongRules(t) {
		want := modelCheck(r)
		if want == api.OK {
			t.Fatalf("the test's own rule with %s is right", what)
		}
		holdCheck(t, r, want)
		if s, e := rule.Print(r); s != "" || e != want {
			t.Errorf("Print with %s: %q, %v, want %v", what, s, e, want)
		}
		if p, e := rule.Plain(r); !sameRule(p, api.Rule{}) || e != want {
			t.Errorf("Plain with %s: %v, %v, want %v", what, p, e, want)
		}
		if h := rule.Head(r); h != "" {
			t.Errorf("Head with %s: %q", what, h)
		}
		for _, x := range terms {
			if y, ok, e := rule.Apply(r, x); len(y) != 0 || ok || e != want {
				t.Errorf("Apply with %s to %v: %v, %v, %v, want %v", what, x, y, ok, e, want)
			}
		}
	}
}

// TestApplyToWrongTerms: the error of the term is told whether Left could fit it or not.
func TestApplyToWrongTerms(t *testing.T) {
	for what, bad := range wrong() {
		for _, r := range rightRules(t) {
			for range 2 {
				if y, ok, e := rule.Apply(r, bad.t); len(y) != 0 || ok || e != bad.e {
					t.Errorf("Apply of %v to %s: %v, %v, %v, want %v", r, what, y, ok, e, bad.e)
				}
			}
		}
	}
}

func TestApply(t *testing.T) {
	for _, c := range []struct{ r, t, want string }{
		{"a -> b", "a", "b"}, {"a -> b", "b", no}, {"a -> b", "a(a)", no}, {"a -> b", "X", no}, {"a -> a", "a", "a"}, {"f(X) -> X", "f(a)", "a"}, {"f(X) -> X", "f(f(a))", "f(a)"}, {"f(X) -> X", "g(a)", no}, {"f(X) -> X", "f(a,b)", no}, {"f(X) -> X", "f", no}, {"f(X) -> b", "f(g(a,a))", "b"}, {"f(X) -> f(f(X))", "f(a)", "f(f(a))"},
		{"g(X,s(Y)) -> s(g(X,Y))", "g(a,s(b))", "s(g(a,b))"}, {"g(X,s(Y)) -> s(g(X,Y))", "g(a,b)", no}, {"plus(zero,X) -> X", "plus(zero,s(zero))", "s(zero)"}, {"plus(zero,X) -> X", "plus(s(zero),zero)", no}, {"plus(s(X),Y) -> s(plus(X,Y))", "plus(s(zero),zero)", "s(plus(zero,zero))"}, {"h(A,B,C,D) -> h(D,C,B,A)", "h(a,s(b),c,g(d,d))", "h(g(d,d),c,s(b),a)"},
		// Nothing is looked at but the whole: parts that Left fits stay.
		{"a -> b", "s(a)", no}, {"f(X) -> X", "s(f(a))", no}, {"f(X) -> g(X,X)", "f(f(a))", "g(f(a),f(a))"},
		// A variable in several places.
		{"g(X,X) -> X", "g(a,a)", "a"}, {"g(X,X) -> X", "g(a,b)", no}, {"g(X,X) -> X", "g(s(a),s(a))", "s(a)"}, {"g(X,X) -> X", "g(s(a),s(b))", no}, {"h(X,Y,X,Y) -> g(Y,X)", "h(a,b,a,b)", "g(b,a)"}, {"h(X,Y,X,Y) -> g(Y,X)", "h(a,b,b,a)", no}, {"f(X) -> h(X,X,X,X)", "f(s(a))", "h(s(a),s(a),s(a),s(a))"}, {"g(X,s(X)) -> X", "g(a,s(a))", "a"}, {"g(X,s(X)) -> X", "g(s(a),s(a))", no},
		// Variables in the term are cells like others, also those of the rule's own names.
		{"f(X) -> X", "f(X)", "X"}, {"f(X) -> g(X,X)", "f(Y)", "g(Y,Y)"}, {"g(X,Y) -> g(Y,X)", "g(Y,X)", "g(X,Y)"}, {"g(X,Y) -> g(Y,X)", "g(Y,Y)", "g(Y,Y)"}, {"g(X,Y) -> g(Y,X)", "g(s(Y),s(X))", "g(s(X),s(Y))"}, {"g(X,X) -> X", "g(X,Y)", no}, {"g(X,X) -> X", "g(Y,Y)", "Y"}, {"f(a) -> b", "f(X)", no}, {"f(a) -> b", "X", no}, {"f(X) -> X", "X", no}, {"f(X) -> f(f(X))", "f(s(X))", "f(f(s(X)))"}, {"g(X1,X0) -> g(X0,X1)", "g(X0,X1)", "g(X1,X0)"}, {"f(X) -> X", "f(Y)", "Y"},
		// What comes out has 64 cells.
		{"f(X) -> s(X)", "f(" + tower(63, "a") + ")", tower(64, "a")}, {"f(X) -> X", "f(" + tower(63, "a") + ")", tower(63, "a")}, {"f(X) -> g(X,s(X))", "f(" + tower(31, "a") + ")", "g(" + tower(31, "a") + "," + tower(32, "a") + ")"}, {"f(X) -> h(X,X,X)", "f(" + tower(21, "Y") + ")", "h(" + tower(21, "Y") + "," + tower(21, "Y") + "," + tower(21, "Y") + ")"}, {"a -> " + tower(8, "b"), "a", tower(8, "b")}, {"f(X) -> " + tower(8, "X"), "f(" + tower(57, "a") + ")", tower(64, "a")}, {tower(8, "X") + " -> " + tower(8, "X"), tower(64, "a"), tower(64, "a")},
		// A term too big for what is made of it, which Left doesn't fit.
		{"f(X) -> h(X,X,X,X)", tower(64, "a"), no}, {"g(X,X) -> h(X,X,X,X)", "g(" + tower(31, "a") + "," + tower(31, "b") + ")", no},
	} {
		for _, id := range []int{0, 65535} {
			r, x := readRule(t, id, c.r), read(t, c.t)
			var want api.Term
			if c.want != no {
				want = read(t, c.want)
			}
			if y, ok, e := rule.Apply(r, x); !slices.Equal(y, want) || ok != (c.want != no) || e != api.OK {
				t.Errorf("Apply of %s to %s: %v, %v, %v, want %s", c.r, c.t, y, ok, e, c.want)
			}
			holdApply(t, r, x)
		}
	}
}

// TestApplyBig: what comes out has 65 cells or more.
func TestApplyBig(t *testing.T) {
	for _, c := range []struct{ r, t string }{
		{"f(X) -> s(s(X))", "f(" + tower(63, "a") + ")"}, {"f(X) -> g(X,X)", "f(" + tower(32, "a") + ")"}, {"f(X) -> h(X,X,X,X)", "f(" + tower(16, "a") + ")"}, {"f(X) -> h(X,X,X,X)", "f(" + tower(63, "X") + ")"}, {"f(X) -> " + tower(8, "X"), "f(" + tower(58, "a") + ")"}, {"g(X,Y) -> h(X,Y,X,Y)", "g(" + tower(20, "a") + "," + tower(12, "b") + ")"}, {"g(X,X) -> h(X,X,s(X))", "g(" + tower(31, "a") + "," + tower(31, "a") + ")"},
	} {
		r, x := readRule(t, 3, c.r), read(t, c.t)
		if y, ok, e := rule.Apply(r, x); len(y) != 0 || ok || e != api.ErrBig {
			t.Errorf("Apply of %s to %s: %v, %v, %v", c.r, c.t, y, ok, e)
		}
		holdApply(t, r, x)
	}
}

// everyTerm answers all terms of up to most cells over a few names.
func everyTerm(most int, leaves ...string) []api.Term {
	bySize := [][]api.Term{nil, nil}
	for _, leaf := range leaves {
		bySize[1] = append(bySize[1], api.Term{{Name: leaf}})
	}
	for n := 2; n <= most; n++ {
		var l []api.Term
		for _, kid := range bySize[n-1] {
			l = append(l, append(api.Term{{Name: "s", Arity: 1}}, kid...))
		}
		for first := 1; first < n-1; first++ {
			for _, a := range bySize[first] {
				for _, b := range bySize[n-1-first] {
					l = append(l, slices.Concat(api.Term{{Name: "g", Arity: 2}}, a, b))
				}
			}
		}
		bySize = append(bySize, l)
	}
	return slices.Concat(bySize...)
}

// everyRule answers all pairs of short terms as rules, right or not, with IDs that differ.
func everyRule(left, right int, leaves ...string) []api.Rule {
	var l []api.Rule
	for _, a := range everyTerm(left, leaves...) {
		for _, b := range everyTerm(right, leaves...) {
			l = append(l, api.Rule{ID: len(l) * 13 % 65536, Left: a, Right: b})
		}
	}
	return l
}

func TestEveryShortRule(t *testing.T) {
	terms := everyTerm(4, "a", "X1", "Y")
	right := 0
	for _, r := range everyRule(4, 3, "a", "X0", "X1") {
		want := modelCheck(r)
		holdCheck(t, r, want)
		if want != api.OK {
			continue
		}
		right++
		for _, x := range terms {
			holdApply(t, r, x)
		}
	}
	if right == 0 {
		t.Error("no rule was right")
	}
}

// holdPlain holds Plain against its definition: the plain form differs from the rule in its variables' names alone, and these are X0, X1 and so on as they stand first in Left.
func holdPlain(t *testing.T, r api.Rule) api.Rule {
	t.Helper()
	p, e := rule.Plain(r)
	if e != api.OK || p.ID != r.ID || !alike(p, r) {
		t.Fatalf("Plain(%v) = %v, %v", r, p, e)
	}
	next := 0
	for i, v := range variables(p.Left) {
		if slices.Contains(variables(p.Left)[:i], v) {
			continue
		}
		if v != "X"+strconv.Itoa(next) {
			t.Errorf("Plain(%v) = %v", r, p)
		}
		next++
	}
	return p
}

// TestOnePlainForm is the second part of P6.5.
func TestOnePlainForm(t *testing.T) {
	var rules, plains []api.Rule
	for _, r := range everyRule(4, 3, "a", "X0", "X1", "B") {
		if modelCheck(r) == api.OK {
			rules, plains = append(rules, r), append(plains, holdPlain(t, r))
		}
	}
	one := 0
	for i, r := range rules {
		for j, o := range rules[:i] {
			same := slices.Equal(plains[i].Left, plains[j].Left) && slices.Equal(plains[i].Right, plains[j].Right)
			if same != alike(r, o) {
				t.Errorf("%v and %v have the plain forms %v and %v", r, o, plains[i], plains[j])
			}
			if same {
				one++
			}
		}
	}
	if one == 0 {
		t.Error("no two rules have one plain form")
	}
}

func holdPlainApply(t *testing.T, r, p api.Rule, x api.Term) bool {
	t.Helper()
	y, ok, e := rule.Apply(r, x)
	z, plainOK, plainE := rule.Apply(p, x)
	if !slices.Equal(y, z) || ok != plainOK || e != plainE {
		t.Errorf("to %v: Apply of %v: %v, %v, %v; of its plain form: %v, %v, %v", x, r, y, ok, e, z, plainOK, plainE)
	}
	return ok
}

// TestPlainAppliesAlike is the first part of P6.5.
func TestPlainAppliesAlike(t *testing.T) {
	terms := everyTerm(4, "a", "X0", "X1")
	terms = append(terms, nil, read(t, "s("+tower(63, "X0")+")"), read(t, "g("+tower(31, "X1")+","+tower(31, "X1")+")"), wrong()["65 cells"].t, wrong()["no name"].t)
	applied := 0
	for _, r := range everyRule(4, 3, "a", "X0", "X1", "B") {
		if modelCheck(r) != api.OK {
			continue
		}
		p := holdPlain(t, r)
		for _, x := range terms {
			if holdPlainApply(t, r, p, x) {
				applied++
			}
		}
	}
	if applied == 0 {
		t.Error("no rule was applied")
	}
}

// grow answers a term of n cells, drawn from r, whose leaves are of the names.
func grow(r *rand.Rand, n int, leaves []string) api.Term {
	if n == 1 {
		return api.Term{{Name: leaves[r.Intn(len(leaves))]}}
	}
	rest := n - 1
	arity := min(rest, 1+r.Intn(4))
	t := api.Term{{Name: []string{"f", "g", "a"}[r.Intn(3)], Arity: arity}}
	for k := arity; k > 0; k-- {
		part := rest
		if k > 1 {
			part = 1 + r.Intn(rest-k+1)
		}
		t = append(t, grow(r, part, leaves)...)
		rest -= part
	}
	return t
}

// filled answers left with a term drawn from r for each variable, or now and then another one for one of its places.
func filled(r *rand.Rand, left api.Term, leaves []string) api.Term {
	values := map[string]api.Term{}
	var t api.Term
	for _, c := range left {
		if !variable(c) {
			t = append(t, c)
			continue
		}
		if values[c.Name] == nil || r.Intn(20) == 0 {
			values[c.Name] = grow(r, 1+r.Intn(14), leaves)
		}
		t = append(t, values[c.Name]...)
	}
	return t
}

// TestManyRules holds Check, Plain and Apply against the models at rules of every size, each with terms that it mostly fits.
func TestManyRules(t *testing.T) {
	r := rand.New(rand.NewSource(6))
	leaves := []string{"a", "b", "X0", "X1", "X2", "B", "X1", "X0"}
	right, fits, big := 0, 0, 0
	for range 40000 {
		one := api.Rule{ID: r.Intn(65540) - 2, Left: grow(r, 1+r.Intn(9), leaves), Right: grow(r, 1+r.Intn(9), leaves)}
		want := modelCheck(one)
		holdCheck(t, one, want)
		if want != api.OK {
			continue
		}
		right++
		p := holdPlain(t, one)
		for range 3 {
			x := filled(r, one.Left, leaves)
			holdApply(t, one, x)
			if holdPlainApply(t, one, p, x) {
				fits++
			} else if _, _, e := rule.Apply(one, x); e == api.ErrBig {
				big++
			}
		}
	}
	if right == 0 || fits == 0 || big == 0 {
		t.Errorf("%d rules were right, %d fitted, %d came to too many cells", right, fits, big)
	}
}

// TestAnyCells: every call ends, none panics, at any cells and any texts (R1).
func TestAnyCells(t *testing.T) {
	r := rand.New(rand.NewSource(7))
	names := []string{"", "a", "f", "X", "X0", "aX", "\xff", "abcdefghi", strings.Repeat("X", 1000)}
	arities := []int{0, 0, 0, 1, 1, 2, 4, 5, -1, math.MaxInt, math.MinInt}
	ids := []int{0, 1, 65535, 65536, -1, math.MaxInt, math.MinInt}
	draw := func() api.Term {
		cells := make(api.Term, r.Intn(4)*r.Intn(4)*r.Intn(9))
		for i := range cells {
			cells[i] = api.Cell{Name: names[r.Intn(len(names))], Arity: arities[r.Intn(len(arities))]}
		}
		return cells
	}
	for range 20000 {
		one, x := api.Rule{ID: ids[r.Intn(len(ids))], Left: draw(), Right: draw()}, draw()
		want := modelCheck(one)
		holdCheck(t, one, want)
		holdApply(t, one, x)
		s, printE := rule.Print(one)
		p, plainE := rule.Plain(one)
		if h := rule.Head(one); printE != want || plainE != want || (s == "") != (want != api.OK) || (h == "") != (want != api.OK) || want != api.OK && !sameRule(p, api.Rule{}) {
			t.Errorf("%v: %q, %v; %v, %v; %q", one, s, printE, p, plainE, h)
		}
	}
	many := make(api.Term, 1<<20)
	holdCheck(t, api.Rule{Left: many, Right: many}, api.ErrBig)
	if y, ok, e := rule.Apply(readRule(t, 0, "a -> b"), many); len(y) != 0 || ok || e != api.ErrBig {
		t.Errorf("Apply to many cells: %v, %v, %v", y, ok, e)
	}
	long := strings.Repeat("f(", 1<<20)
	if p, e := rule.Parse(long, long); !sameRule(p, api.Rule{}) || e != api.ErrLong {
		t.Errorf("Parse of long texts: %v, %v", p, e)
	}
}

// span is where something lies in memory, its spare room included. As long as the span is there that isn't used again, for another answer perhaps.
type span struct {
	from, to uintptr
	kept     unsafe.Pointer
}

func spanAt(kept unsafe.Pointer, size uintptr) span {
	return span{uintptr(kept), uintptr(kept) + size, kept}
}

func textSpan(s string) span {
	return spanAt(unsafe.Pointer(unsafe.StringData(s)), uintptr(len(s)))
}

func termSpans(t api.Term) []span {
	l := []span{spanAt(unsafe.Pointer(unsafe.SliceData(t)), uintptr(cap(t))*unsafe.Sizeof(api.Cell{}))}
	for _, c := range t {
		l = append(l, textSpan(c.Name))
	}
	return l
}

func ruleSpans(r api.Rule) []span { return append(termSpans(r.Left), termSpans(r.Right)...) }

// apart reports whether no two of the spans have memory in common.
func apart(spans []span) bool {
	for i, a := range spans {
		for _, b := range spans[:i] {
			if a.from < b.to && b.from < a.to {
				return false
			}
		}
	}
	return true
}

// roomy answers the term of a text with names that are memory of their own, and spare room behind its cells.
func roomy(t *testing.T, s string) api.Term {
	t.Helper()
	cells := append(make(api.Term, 0, 80), read(t, s)...)
	for i := range cells[len(cells):cap(cells)] {
		cells[len(cells):cap(cells)][i] = api.Cell{Name: strings.Clone("spare"), Arity: i}
	}
	return cells
}

func roomyRule(t *testing.T, id int, s string) api.Rule {
	t.Helper()
	left, right, _ := strings.Cut(s, " -> ")
	return api.Rule{ID: id, Left: roomy(t, left), Right: roomy(t, right)}
}

func whole(t api.Term) api.Term { return t[:cap(t)] }

var memorySamples = []struct{ r, t string }{
	{"a -> a", "a"}, {"a -> b", "a"}, {"a -> b", "b"}, {"f(X) -> X", "f(X)"}, {"f(X) -> X", "f(s(a))"}, {"f(X0) -> X0", "f(X0)"}, {"g(X0,X1) -> g(X0,X1)", "g(a,X1)"}, {"g(X1,X0) -> h(X0,X1,X0,X1)", "g(s(X1),b)"}, {"g(X,X) -> h(X,X,X,X)", "g(s(a),s(a))"}, {"g(X,X) -> X", "g(a,b)"}, {tower(8, "X") + " -> " + tower(8, "X"), tower(64, "a")}, {"f(X) -> g(X,X)", "f(" + tower(32, "a") + ")"},
}

// TestNewMemory: what is answered lies apart from what is handed in and from what was answered earlier, and so do the lists of one answer (R4).
func TestNewMemory(t *testing.T) {
	for _, c := range memorySamples {
		r, x := roomyRule(t, 1, c.r), roomy(t, c.t)
		left, right, _ := strings.Cut(strings.Clone(c.r), " -> ")
		given := append(append(ruleSpans(r), termSpans(x)...), textSpan(left), textSpan(right))
		if !apart(given) {
			t.Fatal("the sample itself shares memory")
		}
		for range 2 {
			read, _ := rule.Parse(left, right)
			plain, _ := rule.Plain(r)
			made, _, _ := rule.Apply(r, x)
			text, _ := rule.Print(r)
			given = slices.Concat(given, ruleSpans(read), ruleSpans(plain), termSpans(made), []span{textSpan(text), textSpan(rule.Head(r))})
		}
		if !apart(given) {
			t.Errorf("%s, %s: answers share memory with what was handed in, or with each other", c.r, c.t)
		}
	}
}

// TestHandedInStays: no call changes what it is handed, spare room included, nor sees it change later (R4).
func TestHandedInStays(t *testing.T) {
	for _, c := range memorySamples {
		r, x := roomyRule(t, 1, c.r), roomy(t, c.t)
		e := rule.Check(r)
		plain, plainE := rule.Plain(r)
		made, _, _ := rule.Apply(r, x)
		text, printE := rule.Print(r)
		head := rule.Head(r)
		if e != api.OK || plainE != api.OK || printE != api.OK {
			t.Fatalf("%s: %v, %v, %v", c.r, e, plainE, printE)
		}
		before := roomyRule(t, 1, c.r)
		if r.ID != 1 || !slices.Equal(whole(r.Left), whole(before.Left)) || !slices.Equal(whole(r.Right), whole(before.Right)) || !slices.Equal(whole(x), whole(roomy(t, c.t))) {
			t.Errorf("%s or %s was changed", c.r, c.t)
		}
		wantPlain := holdPlain(t, before)
		wantMade, _, _ := modelApply(before, x)
		clear(whole(r.Left))
		clear(whole(r.Right))
		clear(whole(x))
		if !sameRule(plain, wantPlain) || !slices.Equal(made, wantMade) || text != c.r || head != before.Left[0].Name {
			t.Errorf("what %s and %s came to hangs on what was handed in", c.r, c.t)
		}
	}
}

// TestAnswersStandAlone: an answer that is written over, its spare room too, moves no other answer and none that comes later.
func TestAnswersStandAlone(t *testing.T) {
	for _, c := range memorySamples {
		r, x := readRule(t, 0, c.r), read(t, c.t)
		left, right, _ := strings.Cut(c.r, " -> ")
		wantPlain := holdPlain(t, r)
		want, _, _ := modelApply(r, x)
		for range 2 {
			read, _ := rule.Parse(left, right)
			plain, _ := rule.Plain(r)
			made, _, _ := rule.Apply(r, x)
			for _, side := range []struct{ got, want api.Term }{{read.Left, r.Left}, {read.Right, r.Right}, {plain.Left, wantPlain.Left}, {plain.Right, wantPlain.Right}, {made, want}} {
				if !slices.Equal(side.got, side.want) {
					t.Errorf("%s, %s: %v, want %v", c.r, c.t, side.got, side.want)
				}
				clear(whole(side.got))
			}
		}
	}
}
