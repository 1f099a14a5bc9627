package net_test

import (
	"math/rand"
	"slices"
	"strings"
	"testing"

	"aumbry/api"
	"aumbry/match"
	"aumbry/net"
	"aumbry/term"
)

func read(t *testing.T, s string) api.Term {
	t.Helper()
	x, _, e := term.Parse(s)
	if e != api.OK {
		t.Fatalf("the test's own %s: %v", s, e)
	}
	return x
}

func text(t api.Term) string {
	s, e := term.Print(t)
	if e != api.OK {
		return "no term: " + e.Error()
	}
	return s
}

// readRule reads a rule as "g(X,Y) -> X", right or not, if only its sides are terms; without an arrow its right side is z.
func readRule(t *testing.T, id int, s string) api.Rule {
	t.Helper()
	left, right, ok := strings.Cut(s, " -> ")
	if !ok {
		right = "z"
	}
	return api.Rule{ID: id, Left: read(t, left), Right: read(t, right)}
}

// idOf is the ID of the test's own rules at a place: none is the place, or one more.
func idOf(place int) int { return 5 + 3*place }

func book(t *testing.T, texts ...string) []api.Rule {
	t.Helper()
	var l []api.Rule
	for i, s := range texts {
		l = append(l, readRule(t, idOf(i), s))
	}
	return l
}

// tower is the text of n cells within one another, the last one's name last.
func tower(n int, last string) string {
	return strings.Repeat("s(", n-1) + last + strings.Repeat(")", n-1)
}

// split answers the name that a term's text begins with, and its arguments' texts.
func split(s string) (string, []string) {
	open := strings.IndexByte(s, '(')
	if open < 0 {
		return s, nil
	}
	var kids []string
	deep, from := 0, open+1
	for i := from; i < len(s); i++ {
		switch {
		case s[i] == '(':
			deep++
		case s[i] == ')' && deep > 0:
			deep--
		case deep == 0 && (s[i] == ',' || s[i] == ')'):
			kids = append(kids, s[from:i])
			from = i + 1
		}
	}
	return s[:open], kids
}

func join(name string, kids []string) string {
	if len(kids) == 0 {
		return name
	}
	return name + "(" + strings.Join(kids, ",") + ")"
}

func variable(s string) bool { return s[0] >= 'A' && s[0] <= 'Z' }

// stand is a variable, and the text of what it stands for.
type stand struct{ name, value string }

// fits goes down both texts together, and lists what the variables stand for as they are met.
func fits(p, s string, stands []stand) ([]stand, bool) {
	if variable(p) {
		for _, b := range stands {
			if b.name == p {
				return stands, b.value == s
			}
		}
		return append(stands, stand{p, s}), true
	}
	left, lefts := split(p)
	right, rights := split(s)
	if left != right || len(lefts) != len(rights) {
		return nil, false
	}
	for i := range lefts {
		var ok bool
		if stands, ok = fits(lefts[i], rights[i], stands); !ok {
			return nil, false
		}
	}
	return stands, true
}

// modelled is a net beside what it was built of, of which the model knows the texts.
type modelled struct {
	n     *net.Net
	rules []api.Rule
	lefts []string
}

func build(t *testing.T, rules []api.Rule) modelled {
	t.Helper()
	n, e := net.Build(rules)
	if n == nil || e != api.OK {
		t.Fatalf("Build of %v: %v, %v", rules, n, e)
	}
	m := modelled{n: n, rules: rules}
	for _, r := range rules {
		m.lefts = append(m.lefts, text(r.Left))
	}
	return m
}

// answer is what a net is to tell of a term.
type answer struct {
	id    int
	binds []stand
	ok    bool
	all   []int
}

// byTexts tries the rules' texts one by one.
func (m modelled) byTexts(s string) answer {
	var a answer
	for i, left := range m.lefts {
		stands, ok := fits(left, s, nil)
		if !ok {
			continue
		}
		if !a.ok {
			a.id, a.binds, a.ok = m.rules[i].ID, stands, true
		}
		a.all = append(a.all, m.rules[i].ID)
	}
	return a
}

// byMatch tries match.Match rule by rule.
func (m modelled) byMatch(x api.Term) answer {
	var a answer
	for _, r := range m.rules {
		binds, ok, e := match.Match(r.Left, x)
		if !ok || e != api.OK {
			continue
		}
		if !a.ok {
			a.id, a.binds, a.ok = r.ID, show(binds), true
		}
		a.all = append(a.all, r.ID)
	}
	return a
}

func show(binds []api.Bind) []stand {
	var l []stand
	for _, b := range binds {
		l = append(l, stand{b.Name, text(b.Value)})
	}
	return l
}

func (m modelled) asked(x api.Term) answer {
	id, binds, ok := m.n.First(x)
	return answer{id, show(binds), ok, m.n.All(x)}
}

func same(a, b answer) bool {
	return a.id == b.id && slices.Equal(a.binds, b.binds) && a.ok == b.ok && slices.Equal(a.all, b.all)
}

// hold asks twice: nothing that was asked earlier is to be seen in an answer.
func (m modelled) hold(t *testing.T, x api.Term) answer {
	t.Helper()
	want := m.byTexts(text(x))
	if other := m.byMatch(x); !same(other, want) {
		t.Fatalf("the models differ at %v and %s: %v, %v", m.lefts, text(x), want, other)
	}
	for range 2 {
		if got := m.asked(x); !same(got, want) {
			t.Errorf("net of %v, of %s: %v, want %v", m.lefts, text(x), got, want)
		}
	}
	if m.n.Len() != len(m.rules) {
		t.Errorf("Len of %v: %d", m.lefts, m.n.Len())
	}
	return want
}

// everyTerm answers the texts of all terms of at most so many cells, over s/1 and g/2.
func everyTerm(most int, leaves ...string) []string {
	bySize := [][]string{nil, leaves}
	for n := 2; n <= most; n++ {
		var l []string
		for _, kid := range bySize[n-1] {
			l = append(l, "s("+kid+")")
		}
		for first := 1; first < n-1; first++ {
			for _, a := range bySize[first] {
				for _, b := range bySize[n-1-first] {
					l = append(l, "g("+a+","+b+")")
				}
			}
		}
		bySize = append(bySize, l)
	}
	return slices.Concat(bySize...)
}

// grow answers the text of a term of n cells, drawn from r, whose leaves are of the names.
func grow(r *rand.Rand, n int, leaves []string) string {
	if n == 1 {
		return leaves[r.Intn(len(leaves))]
	}
	rest := n - 1
	arity := min(rest, 1+r.Intn(4))
	var kids []string
	for k := arity; k > 0; k-- {
		part := rest
		if k > 1 {
			part = 1 + r.Intn(rest-k+1)
		}
		kids = append(kids, grow(r, part, leaves))
		rest -= part
	}
	return join([]string{"f", "g", "a"}[r.Intn(3)], kids)
}

// filled answers a left side's text with one drawn from r for each variable, or now and then another one for one of its places.
func filled(r *rand.Rand, left string, leaves []string, values map[string]string) string {
	if variable(left) {
		if values[left] == "" || r.Intn(12) == 0 {
			values[left] = grow(r, 1+r.Intn(7), leaves)
		}
		return values[left]
	}
	name, kids := split(left)
	for i := range kids {
		kids[i] = filled(r, kids[i], leaves, values)
	}
	return join(name, kids)
}
