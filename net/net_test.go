package net_test

import (
	"math/rand"
	"slices"
	"strconv"
	"strings"
	"testing"

	"aumbry/api"
	"aumbry/match"
	"aumbry/net"
	"aumbry/rule"
	"aumbry/term"
)

func TestExamples(t *testing.T) {
	rules := []api.Rule{readRule(t, 1, "g(X,X) -> X"), readRule(t, 3, "g(a,X) -> X"), readRule(t, 4, "g(X,Y) -> Y")}
	n, e := net.Build(rules)
	if n == nil || e != api.OK || n.Len() != 3 {
		t.Fatalf("Build: %v, %v", n, e)
	}
	if id, binds, ok := n.First(read(t, "g(a,b)")); id != 3 || !ok || !slices.Equal(show(binds), []stand{{"X", "b"}}) {
		t.Errorf("First of g(a,b): %d, %v, %v", id, binds, ok)
	}
	if id, binds, ok := n.First(read(t, "g(a,a)")); id != 1 || !ok || !slices.Equal(show(binds), []stand{{"X", "a"}}) {
		t.Errorf("First of g(a,a): %d, %v, %v", id, binds, ok)
	}
	if all := n.All(read(t, "g(a,a)")); !slices.Equal(all, []int{1, 3, 4}) {
		t.Errorf("All of g(a,a): %v", all)
	}
}

// TestFits tells for rules in a row, of IDs 1, 2 and so on, which fit; of the first what it tells.
func TestFits(t *testing.T) {
	for _, c := range []struct {
		rules, term string
		all         []int
		binds       string
	}{
		// Without variables.
		{"a", "a", []int{1}, ""}, {"a", "b", nil, ""}, {"a b c", "b", []int{2}, ""}, {"s(a)", "s(a)", []int{1}, ""}, {"s(a)", "s(b)", nil, ""}, {"s(a)", "s(s(a))", nil, ""}, {"s(s(a))", "s(a)", nil, ""}, {"a a a", "a", []int{1, 2, 3}, ""}, {"h(a,b,c,d)", "h(a,b,c,d)", []int{1}, ""}, {"h(a,b,c,d)", "h(a,b,d,c)", nil, ""},
		// One name over several numbers of arguments.
		{"g g(X) g(X,Y) g(X,Y,Z)", "g", []int{1}, ""}, {"g g(X) g(X,Y) g(X,Y,Z)", "g(a)", []int{2}, "X=a"}, {"g g(X) g(X,Y) g(X,Y,Z)", "g(a,b)", []int{3}, "X=a Y=b"}, {"g g(X) g(X,Y) g(X,Y,Z)", "g(a,b,c)", []int{4}, "X=a Y=b Z=c"}, {"g g(X) g(X,Y) g(X,Y,Z)", "g(a,b,c,d)", nil, ""}, {"s(g(X)) s(g(X,Y))", "s(g(a,b))", []int{2}, "X=a Y=b"}, {"s(a) s(a(X))", "s(a(b))", []int{2}, "X=b"},
		// Variables stand for whole terms.
		{"s(X)", "s(s(s(a)))", []int{1}, "X=s(s(a))"}, {"g(X,a)", "g(g(b,s(c)),a)", []int{1}, "X=g(b,s(c))"}, {"g(X,a)", "g(g(b,a),b)", nil, ""}, {"g(X,g(Y,Z))", "g(g(a,b),g(c,g(d,e)))", []int{1}, "X=g(a,b) Y=c Z=g(d,e)"}, {"h(X,Y,Z,a)", "h(s(a),g(a,b),h(a,a,a,a),a)", []int{1}, "X=s(a) Y=g(a,b) Z=h(a,a,a,a)"}, {"h(D,C,B,A)", "h(a,b,c,d)", []int{1}, "D=a C=b B=c A=d"},
		// The least ID is first, whether what it says is narrow or wide.
		{"g(X,Y) g(a,X) g(a,b)", "g(a,b)", []int{1, 2, 3}, "X=a Y=b"}, {"g(a,b) g(a,X) g(X,Y)", "g(a,b)", []int{1, 2, 3}, ""}, {"g(a,X) g(X,Y) g(a,b)", "g(a,b)", []int{1, 2, 3}, "X=b"}, {"g(b,X) g(X,b) g(X,Y) g(a,b)", "g(a,b)", []int{2, 3, 4}, "X=a"}, {"s(X) s(s(X)) s(s(s(X)))", "s(s(a))", []int{1, 2}, "X=s(a)"}, {"s(s(s(X))) s(s(X)) s(X)", "s(s(a))", []int{2, 3}, "X=a"},
		{"g(X,c) g(a,X) g(X,b) g(a,c)", "g(a,b)", []int{2, 3}, "X=b"}, {"g(X,b) g(a,X) g(X,c)", "g(a,b)", []int{1, 2}, "X=a"}, {"g(s(X),Y) g(X,s(Y)) g(X,Y) g(s(X),s(Y))", "g(s(a),s(b))", []int{1, 2, 3, 4}, "X=a Y=s(b)"},
		// Variables that stand twice.
		{"g(X,X)", "g(a,a)", []int{1}, "X=a"}, {"g(X,X)", "g(a,b)", nil, ""}, {"g(X,X)", "g(s(a),s(a))", []int{1}, "X=s(a)"}, {"g(X,X)", "g(s(a),s(b))", nil, ""}, {"g(X,X)", "g(a,s(a))", nil, ""}, {"g(X,X) g(X,Y)", "g(a,b)", []int{2}, "X=a Y=b"}, {"g(X,Y) g(X,X)", "g(a,a)", []int{1, 2}, "X=a Y=a"}, {"h(X,Y,X,Y)", "h(a,b,a,b)", []int{1}, "X=a Y=b"}, {"h(X,Y,X,Y)", "h(a,b,b,a)", nil, ""}, {"h(X,Y,Y,X)", "h(a,b,b,a)", []int{1}, "X=a Y=b"}, {"h(X,X,Y,Y) h(X,Y,X,Y) h(X,Y,Y,X) h(X,X,X,X)", "h(a,b,a,b)", []int{2}, "X=a Y=b"}, {"h(X,X,Y,Y) h(X,Y,X,Y) h(X,Y,Y,X) h(X,X,X,X)", "h(a,a,a,a)", []int{1, 2, 3, 4}, "X=a Y=a"}, {"g(X,s(X))", "g(a,s(a))", []int{1}, "X=a"}, {"g(X,s(X))", "g(s(a),s(a))", nil, ""}, {"g(g(X,Y),X)", "g(g(s(a),b),s(a))", []int{1}, "X=s(a) Y=b"},
		// Rules of one shape.
		{"g(X,Y) g(Y,X) g(A,B)", "g(a,b)", []int{1, 2, 3}, "X=a Y=b"}, {"g(Y,X) g(X,Y)", "g(a,b)", []int{1, 2}, "Y=a X=b"}, {"g(X,X) g(Y,Y) g(Z,Z)", "g(a,b)", nil, ""}, {"g(X,X) g(Y,Z) g(Z,Z)", "g(a,b)", []int{2}, "Y=a Z=b"}, {"s(X) a s(Y) b s(X)", "s(c)", []int{1, 3, 5}, "X=c"},
		// Rules that part late.
		{"h(a,a,a,a) h(a,a,a,b) h(a,a,a,X)", "h(a,a,a,b)", []int{2, 3}, ""}, {"h(X,Y,Z,a) h(X,Y,Z,b) h(X,Y,Z,Z)", "h(a,b,c,c)", []int{3}, "X=a Y=b Z=c"}, {"h(X,Y,Z,a) h(X,Y,Z,b) h(X,Y,Z,Z)", "h(a,b,b,b)", []int{2, 3}, "X=a Y=b Z=b"}, {"h(a,X,b,c) h(X,a,b,d) h(a,a,X,Y)", "h(a,a,b,d)", []int{2, 3}, "X=a"}, {"h(a,X,b,c) h(X,a,b,d) h(a,a,X,Y)", "h(a,a,b,c)", []int{1, 3}, "X=a"},
		{tower(8, "a") + " " + tower(8, "b") + " " + tower(8, "X"), tower(8, "b"), []int{2, 3}, ""}, {tower(8, "a") + " " + tower(8, "b") + " " + tower(8, "X"), tower(9, "b"), []int{3}, "X=s(b)"}, {tower(8, "a") + " " + tower(8, "b") + " " + tower(8, "X"), tower(7, "b"), nil, ""}, {tower(8, "X"), tower(64, "a"), []int{1}, "X=" + tower(57, "a")},
		// A term's own variables are cells like others.
		{"s(X)", "s(X)", []int{1}, "X=X"}, {"s(X)", "s(Y)", []int{1}, "X=Y"}, {"s(a) s(X)", "s(X)", []int{2}, "X=X"}, {"g(X,X)", "g(X,Y)", nil, ""}, {"g(X,Y)", "g(Y,Y)", []int{1}, "X=Y Y=Y"}, {"g(X,Y)", "g(Y,X)", []int{1}, "X=Y Y=X"}, {"g(X,X)", "g(Y,Y)", []int{1}, "X=Y"}, {"a s(X) g(X,Y)", "X", nil, ""}, {"g(a,X) g(X,a)", "g(X,a)", []int{2}, "X=X"}, {"g(X,s(X))", "g(Y,s(Y))", []int{1}, "X=Y"}, {"g(X,s(X))", "g(X,s(Y))", nil, ""}, {"s(s(X))", "s(X)", nil, ""},
		// None that fits.
		{"a b s(X) g(X,X)", "c", nil, ""}, {"a b s(X) g(X,X)", "z(a)", nil, ""}, {"s(X)", "ss(a)", nil, ""}, {"ss(X)", "s(a)", nil, ""}, {"s1(X)", "s2(a)", nil, ""},
	} {
		var rules []api.Rule
		for i, s := range strings.Fields(c.rules) {
			rules = append(rules, readRule(t, i+1, s))
		}
		m := build(t, rules)
		x := read(t, c.term)
		want := answer{all: c.all, ok: len(c.all) > 0}
		if want.ok {
			want.id = c.all[0]
		}
		for _, b := range strings.Fields(c.binds) {
			name, value, _ := strings.Cut(b, "=")
			want.binds = append(want.binds, stand{name, value})
		}
		if got := m.asked(x); !same(got, want) {
			t.Errorf("net of %s, of %s: %v, want %v", c.rules, c.term, got, want)
		}
		m.hold(t, x)
	}
}

func lefts(most int, leaves ...string) []string {
	return slices.DeleteFunc(everyTerm(most, leaves...), variable)
}

// TestEveryPair: all nets of two short rules, in both orders, with all short terms.
func TestEveryPair(t *testing.T) {
	var terms []api.Term
	for _, s := range everyTerm(4, "a", "X", "Y") {
		terms = append(terms, read(t, s))
	}
	both := 0
	sides := lefts(3, "a", "X", "Y")
	for _, one := range sides {
		for _, other := range sides {
			m := build(t, book(t, one, other))
			for _, x := range terms {
				if a := m.hold(t, x); len(a.all) == 2 {
					both++
				}
			}
		}
	}
	if both == 0 {
		t.Error("no two rules fitted one term")
	}
}

// TestEveryShortSide: all short left sides, 64 of them a net as they come, stirred, and turned round, with all short terms.
func TestEveryShortSide(t *testing.T) {
	r := rand.New(rand.NewSource(1))
	var terms []api.Term
	for _, s := range everyTerm(5, "a", "b", "X") {
		terms = append(terms, read(t, s))
	}
	sides := lefts(5, "a", "X", "Y")
	for range 3 {
		for from := 0; from < len(sides); from += 64 {
			m := build(t, book(t, sides[from:min(from+64, len(sides))]...))
			for _, x := range terms {
				if r.Intn(8) == 0 {
					m.hold(t, x)
				}
			}
		}
		slices.Reverse(sides)
		r.Shuffle(len(sides)/2, func(i, j int) { sides[i], sides[j] = sides[j], sides[i] })
	}
}

// drawRules answers up to 64 rules drawn from r, of sizes up to the greatest, now and then one of the shape of an earlier one.
func drawRules(t *testing.T, r *rand.Rand) []api.Rule {
	t.Helper()
	leaves := []string{"a", "b", "X", "Y", "X", "Z"}
	var rules []api.Rule
	id := r.Intn(4)
	for range 1 + r.Intn(64) {
		left := grow(r, 1+r.Intn(8), leaves)
		if len(rules) > 0 && r.Intn(3) == 0 {
			left = text(rules[r.Intn(len(rules))].Left)
		}
		// A name in place of another: a side that has it parts from where it was, or has a variable more, or one twice.
		if r.Intn(2) == 0 {
			left = strings.Replace(left, leaves[r.Intn(6)], leaves[r.Intn(6)], 1)
		}
		cells, _, _ := term.Parse(left)
		one := api.Rule{ID: id, Left: cells, Right: read(t, "a")}
		if rule.Check(one) != api.OK {
			continue
		}
		rules = append(rules, one)
		id += 1 + r.Intn(9)*r.Intn(200)
	}
	return rules
}

// TestManyNets holds nets of many rules against trying them one by one, at terms that some rule mostly fits.
func TestManyNets(t *testing.T) {
	r := rand.New(rand.NewSource(2))
	fit, several, none, later := 0, 0, 0, 0
	for range 500 {
		m := build(t, drawRules(t, r))
		for range 40 {
			s := grow(r, 1+r.Intn(12), []string{"a", "b", "X", "Y"})
			if len(m.rules) > 0 && r.Intn(5) > 0 {
				s = filled(r, m.lefts[r.Intn(len(m.lefts))], []string{"a", "b", "X", "b"}, map[string]string{})
			}
			x := read(t, s)
			a := m.hold(t, x)
			switch {
			case len(a.all) > 1:
				several++
			case a.ok:
				fit++
			default:
				none++
			}
			if a.ok && a.id != m.rules[0].ID {
				later++
			}
		}
	}
	if min(fit, several, none, later) < 100 {
		t.Errorf("%d times one rule fitted, %d times several, %d times none, %d times not the net's first one", fit, several, none, later)
	}
}

// wide answers 64 left sides of 8 cells that are alike but in their last cell, in one of their other leaves, or in the places of their variables.
func wide() map[string][]string {
	l := map[string][]string{}
	for i := range 64 {
		n := strconv.Itoa(i)
		l["their last cells"] = append(l["their last cells"], "h(X,s(Y),a,g(Z,a"+n+"))")
		l["their first leaves"] = append(l["their first leaves"], "h(a"+n+",s(Y),a,g(Z,b))")
		l["the names of variables"] = append(l["the names of variables"], "h(X"+n+",s(Y),a,g(Z,X"+n+"))")
		side := "h(A,B,C,g(D,E,F))"
		for bit := range 6 {
			if i>>bit&1 == 0 {
				side = strings.Replace(side, string(rune('A'+bit)), "a", 1)
			}
		}
		l["where variables stand"] = append(l["where variables stand"], side)
	}
	return l
}

// TestWideNets: 64 rules that have nearly all in common.
func TestWideNets(t *testing.T) {
	r := rand.New(rand.NewSource(3))
	for what, sides := range wide() {
		for range 3 {
			m := build(t, book(t, sides...))
			for _, side := range sides {
				for range 4 {
					a := m.hold(t, read(t, filled(r, side, []string{"a", "a1", "b", "X"}, map[string]string{})))
					if !a.ok && !strings.Contains(side, "X") {
						t.Errorf("sides that differ in %s: none fits %s", what, side)
					}
				}
			}
			r.Shuffle(len(sides), func(i, j int) { sides[i], sides[j] = sides[j], sides[i] })
		}
	}
	m := build(t, book(t, wide()["where variables stand"]...))
	if a := m.hold(t, read(t, "h(a,a,a,g(a,a,a))")); len(a.all) != 64 {
		t.Errorf("%d of 64 fit", len(a.all))
	}
}

// TestGreatTerms: terms of 64 cells, and of 63, below variables at every place of a side.
func TestGreatTerms(t *testing.T) {
	m := build(t, book(t, "h(X,a,b,c)", "h(a,X,b,c)", "h(a,b,X,c)", "h(a,b,c,X)", "h(X,Y,Z,X)", "s(X)", "s(s(X))", "g(X,Y)", "g(Y,Y)", tower(8, "X")))
	for _, n := range []int{59, 60} {
		great := tower(n, "d")
		for i, s := range []string{"h(" + great + ",a,b,c)", "h(a," + great + ",b,c)", "h(a,b," + great + ",c)", "h(a,b,c," + great + ")"} {
			if a := m.hold(t, read(t, s)); !slices.Equal(a.all, []int{idOf(i)}) {
				t.Errorf("%s: %v", s, a)
			}
		}
	}
	for _, s := range []string{tower(64, "a"), tower(63, "X"), "g(" + tower(31, "a") + "," + tower(31, "a") + ")", "g(" + tower(31, "a") + "," + tower(31, "b") + ")", "g(" + tower(31, "a") + "," + tower(32, "a") + ")", "h(" + tower(20, "a") + ",a,a," + tower(20, "a") + ")"} {
		if a := m.hold(t, read(t, s)); !a.ok {
			t.Errorf("none fits %s", s)
		}
	}
}

// nothing reports whether a net told of none that fits.
func nothing(n *net.Net, x api.Term) bool {
	id, binds, ok := n.First(x)
	return id == 0 && len(binds) == 0 && !ok && len(n.All(x)) == 0
}

// TestWrongTerms: of a term that isn't right, however far it is like a left side, nothing is told.
func TestWrongTerms(t *testing.T) {
	nets := []modelled{build(t, nil), build(t, book(t, "a")), build(t, book(t, "s(X)", "g(X,Y)", "a", "aa", "g(X,X)", "s(a)")), build(t, drawRules(t, rand.New(rand.NewSource(4)))), build(t, manyRules(t, 64))}
	for _, m := range nets {
		for what, bad := range wrong() {
			for range 2 {
				if !nothing(m.n, bad.t) {
					t.Errorf("net of %v: something is told of %s", m.lefts, what)
				}
			}
		}
		for _, r := range m.rules {
			for name, x := range map[string]api.Term{"a cell less": r.Left[:len(r.Left)-1], "a cell more": append(slices.Clone(r.Left), api.Cell{Name: "a"}), "a variable more": append(slices.Clone(r.Left), api.Cell{Name: "X"}), "the side twice": slices.Repeat(r.Left, 2), "the first cell missing": r.Left[1:]} {
				if term.Check(x) == api.OK {
					continue
				}
				if !nothing(m.n, x) {
					t.Errorf("net of %v: something is told of %v, %s", m.lefts, x, name)
				}
			}
			for i := range r.Left {
				for _, c := range []api.Cell{{}, {Name: "aX"}, {Name: r.Left[i].Name, Arity: -1}, {Name: r.Left[i].Name, Arity: 5}, {Name: "X", Arity: max(1, r.Left[i].Arity)}, {Arity: r.Left[i].Arity}} {
					x := slices.Clone(r.Left)
					x[i] = c
					if !nothing(m.n, x) {
						t.Errorf("net of %v: something is told of %v", m.lefts, x)
					}
				}
			}
		}
	}
	many := make(api.Term, 1<<20)
	for _, m := range nets {
		if !nothing(m.n, many) {
			t.Errorf("net of %v: something is told of many cells", m.lefts)
		}
	}
}

func TestNilNet(t *testing.T) {
	var n *net.Net
	for range 2 {
		if n.Len() != 0 {
			t.Errorf("a nil net has %d rules", n.Len())
		}
		for _, s := range everyTerm(3, "a", "X") {
			if !nothing(n, read(t, s)) {
				t.Errorf("a nil net tells something of %s", s)
			}
		}
		for what, bad := range wrong() {
			if !nothing(n, bad.t) {
				t.Errorf("a nil net tells something of %s", what)
			}
		}
	}
}

// TestFirstTellsMatch: beside the ID stands what match.Match tells, in its order, of that rule's Left alone.
func TestFirstTellsMatch(t *testing.T) {
	r := rand.New(rand.NewSource(5))
	told := 0
	for range 200 {
		m := build(t, drawRules(t, r))
		for _, one := range m.rules {
			x := read(t, filled(r, text(one.Left), []string{"a", "b", "X"}, map[string]string{}))
			id, binds, ok := m.n.First(x)
			if !ok {
				continue
			}
			at := slices.IndexFunc(m.rules, func(r api.Rule) bool { return r.ID == id })
			want, fits, e := match.Match(m.rules[at].Left, x)
			if !fits || e != api.OK || !slices.Equal(show(binds), show(want)) {
				t.Errorf("First of %s: %d, %v, want %v", text(x), id, show(binds), show(want))
			}
			filledIn, e := match.Fill(m.rules[at].Left, binds)
			if e != api.OK || !slices.Equal(filledIn, x) {
				t.Errorf("%v, filled into %s, is %s, not %s", show(binds), m.lefts[at], text(filledIn), text(x))
			}
			told++
		}
	}
	if told < 1000 {
		t.Errorf("only %d times a rule fitted", told)
	}
}

// TestNetsStandAlone: nets that are built and asked in turn don't meet.
func TestNetsStandAlone(t *testing.T) {
	r := rand.New(rand.NewSource(6))
	var nets []modelled
	for range 20 {
		nets = append(nets, build(t, drawRules(t, r)))
	}
	for range 40 {
		x := read(t, grow(r, 1+r.Intn(6), []string{"a", "b", "X"}))
		for _, m := range nets {
			m.hold(t, x)
		}
	}
}
