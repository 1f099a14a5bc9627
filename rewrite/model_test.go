package rewrite_test

import (
	"slices"
	"strconv"
	"strings"
	"testing"

	"aumbry/api"
	"aumbry/rewrite"
	"aumbry/term"
)

// The models rewrite texts, by no call of the layers below but term.Parse and term.Print at their edge.

func read(t *testing.T, s string) api.Term {
	t.Helper()
	x, _, e := term.Parse(s)
	if e != api.OK {
		t.Fatalf("the test's own %s: %v", s, e)
	}
	return x
}

func text(t api.Term) string {
	s, e := term.Print(t)
	if e != api.OK {
		return "no term: " + e.Error()
	}
	return s
}

// book reads rules as "g(X,Y) -> X", with the IDs 1, 2 and so on.
func book(t *testing.T, texts ...string) []api.Rule {
	t.Helper()
	var l []api.Rule
	for i, s := range texts {
		left, right, _ := strings.Cut(s, " -> ")
		l = append(l, api.Rule{ID: i + 1, Left: read(t, left), Right: read(t, right)})
	}
	return l
}

// tower is the text of n cells within one another, the last one's name last.
func tower(n int, last string) string {
	return strings.Repeat("s(", n-1) + last + strings.Repeat(")", n-1)
}

// split answers the name that a term's text begins with, and its arguments' texts.
func split(s string) (string, []string) {
	open := strings.IndexByte(s, '(')
	if open < 0 {
		return s, nil
	}
	var kids []string
	deep, from := 0, open+1
	for i := from; i < len(s); i++ {
		switch {
		case s[i] == '(':
			deep++
		case s[i] == ')' && deep > 0:
			deep--
		case deep == 0 && (s[i] == ',' || s[i] == ')'):
			kids = append(kids, s[from:i])
			from = i + 1
		}
	}
	return s[:open], kids
}

func join(name string, kids []string) string {
	if len(kids) == 0 {
		return name
	}
	return name + "(" + strings.Join(kids, ",") + ")"
}

// size is the number of cells of a text: each but the first stands behind one of these signs.
func size(s string) int { return 1 + strings.Count(s, "(") + strings.Count(s, ",") }

func variable(s string) bool { return s[0] >= 'A' && s[0] <= 'Z' }

// fits goes down both texts together, and notes what the variables stand for.
func fits(p, s string, stands map[string]string) bool {
	if variable(p) {
		old, ok := stands[p]
		stands[p] = s
		return !ok || old == s
	}
	left, lefts := split(p)
	right, rights := split(s)
	if left != right || len(lefts) != len(rights) {
		return false
	}
	for i := range lefts {
		if !fits(lefts[i], rights[i], stands) {
			return false
		}
	}
	return true
}

// textRule is a rule as texts.
type textRule struct{ left, right string }

func texts(rules []api.Rule) []textRule {
	var l []textRule
	for _, r := range rules {
		l = append(l, textRule{text(r.Left), text(r.Right)})
	}
	return l
}

// firstFit answers the right side of the first rule that fits, and what its variables stand for.
func firstFit(rules []textRule, s string) (string, map[string]string, bool) {
	for _, r := range rules {
		stands := map[string]string{}
		if fits(r.left, s, stands) {
			return r.right, stands, true
		}
	}
	return "", nil, false
}

// known is what a table tells of a term.
type known struct {
	norm  string
	heads []string
}

// table is one whose terms are texts.
type table map[string]known

func (l table) Find(t api.Term) (api.Term, []string, bool) {
	k, ok := l[text(t)]
	if !ok {
		return nil, nil, false
	}
	norm, _, _ := term.Parse(k.norm)
	return norm, slices.Clone(k.heads), true
}

// model is a state as texts: an op is g/2, or = and its value.
type model struct {
	ops, vals []string
	steps     int
	heads     []string
}

func (m model) String() string {
	return "to do " + strings.Join(m.ops, " ") + "; values " + strings.Join(m.vals, " ") + "; steps " + strconv.Itoa(m.steps) + "; heads " + strings.Join(m.heads, " ")
}

// show answers a state as the model has it; what an op has beside what it should have is told too.
func show(s api.State) model {
	m := model{steps: s.Steps, heads: s.Heads}
	for _, op := range s.Ops {
		switch {
		case op.Kind == api.OpMake && len(op.Value) == 0:
			m.ops = append(m.ops, op.Cell.Name+"/"+strconv.Itoa(op.Cell.Arity))
		case op.Kind == api.OpHave && op.Cell == api.Cell{}:
			m.ops = append(m.ops, "="+text(op.Value))
		default:
			m.ops = append(m.ops, "no op: "+strconv.Itoa(op.Kind)+" "+op.Cell.Name+" "+strconv.Itoa(op.Cell.Arity)+" "+text(op.Value))
		}
	}
	for _, v := range s.Vals {
		m.vals = append(m.vals, text(v))
	}
	return m
}

// state answers the state that a model tells of.
func state(t *testing.T, m model) api.State {
	t.Helper()
	s := api.State{Steps: m.steps, Heads: slices.Clone(m.heads)}
	for _, op := range m.ops {
		if value, ok := strings.CutPrefix(op, "="); ok {
			s.Ops = append(s.Ops, api.Op{Kind: api.OpHave, Value: read(t, value)})
			continue
		}
		name, arity, _ := strings.Cut(op, "/")
		n, _ := strconv.Atoi(arity)
		s.Ops = append(s.Ops, api.Op{Kind: api.OpMake, Cell: api.Cell{Name: name, Arity: n}})
	}
	for _, v := range m.vals {
		s.Vals = append(s.Vals, read(t, v))
	}
	return s
}

func start(t *testing.T, s string) api.State {
	t.Helper()
	x, e := rewrite.Start(read(t, s))
	if e != api.OK {
		t.Fatalf("Start(%s): %v", s, e)
	}
	return x
}

// toDo tells the ops of a text from the whole to its parts, the parts from the right: that is the other way round than they are done.
func toDo(s string, stands map[string]string) []string {
	if variable(s) {
		return []string{"=" + stands[s]}
	}
	name, kids := split(s)
	l := []string{name + "/" + strconv.Itoa(len(kids))}
	for i := len(kids) - 1; i >= 0; i-- {
		l = append(l, toDo(kids[i], stands)...)
	}
	return l
}

func joined(heads []string, more ...string) []string {
	l := slices.Concat(heads, more)
	slices.Sort(l)
	return slices.Compact(l)
}

// do answers the state behind the next op, and the fuel that is left.
func (m model) do(rules []textRule, fuel int, known table) (model, int, api.Errno) {
	last := len(m.ops) - 1
	next := model{ops: slices.Clone(m.ops[:last]), vals: slices.Clone(m.vals), steps: m.steps, heads: m.heads}
	if value, ok := strings.CutPrefix(m.ops[last], "="); ok {
		next.vals = append(next.vals, value)
		return next, fuel, api.OK
	}
	name, arity, _ := strings.Cut(m.ops[last], "/")
	n, _ := strconv.Atoi(arity)
	node := join(name, m.vals[len(m.vals)-n:])
	next.vals = next.vals[:len(m.vals)-n]
	if size(node) > 64 {
		return m, fuel, api.ErrBig
	}
	if k, ok := known[node]; ok {
		next.vals = append(next.vals, k.norm)
		next.heads = joined(m.heads, k.heads...)
		return next, fuel, api.OK
	}
	next.heads = joined(m.heads, name)
	right, stands, ok := firstFit(rules, node)
	if !ok {
		next.vals = append(next.vals, node)
		return next, fuel, api.OK
	}
	if fuel <= 0 {
		return m, fuel, api.ErrFuel
	}
	next.steps++
	next.ops = append(next.ops, toDo(right, stands)...)
	return next, fuel - 1, api.OK
}

// run does one op behind the other.
func (m model) run(rules []textRule, fuel int, known table) (model, api.Errno) {
	for len(m.ops) > 0 {
		next, left, e := m.do(rules, fuel, known)
		if e != api.OK {
			return m, e
		}
		m, fuel = next, left
	}
	return m, api.OK
}

// whole is a model without ops and values: a term is rewritten by a function that calls itself.
type whole struct {
	rules       []textRule
	known       table
	fuel, steps int
	heads       []string
}

func (w *whole) rewrite(s string, stands map[string]string) (string, api.Errno) {
	if variable(s) {
		return stands[s], api.OK
	}
	name, kids := split(s)
	var done []string
	for _, kid := range kids {
		x, e := w.rewrite(kid, stands)
		if e != api.OK {
			return "", e
		}
		done = append(done, x)
	}
	node := join(name, done)
	if size(node) > 64 {
		return "", api.ErrBig
	}
	if k, ok := w.known[node]; ok {
		w.heads = joined(w.heads, k.heads...)
		return k.norm, api.OK
	}
	right, stands, ok := firstFit(w.rules, node)
	if ok && w.fuel <= 0 {
		return "", api.ErrFuel
	}
	w.heads = joined(w.heads, name)
	if !ok {
		return node, api.OK
	}
	w.fuel, w.steps = w.fuel-1, w.steps+1
	return w.rewrite(right, stands)
}

// holdRun holds Run against the model, and answers what it answered.
func holdRun(t *testing.T, rules []api.Rule, s api.State, fuel int, known table) (api.State, api.Errno) {
	t.Helper()
	want, wantE := show(s).run(texts(rules), fuel, known)
	var got api.State
	var e api.Errno
	for range 2 {
		if known == nil {
			got, e = rewrite.Run(rules, s, fuel, nil)
		} else {
			got, e = rewrite.Run(rules, s, fuel, known)
		}
		if show(got).String() != want.String() || e != wantE {
			t.Errorf("Run(%v, %v, %d, %v) = %v, %v, want %v, %v", texts(rules), show(s), fuel, known, show(got), e, want, wantE)
		}
		if rewrite.Check(got) != api.OK {
			t.Errorf("Run(%v, %v, %d, %v) comes to %v, which isn't right", texts(rules), show(s), fuel, known, show(got))
		}
	}
	return got, e
}

// holdNormal holds Normal against the model that has no states, and Run of what Start tells too.
func holdNormal(t *testing.T, rules []api.Rule, s string, fuel int) (api.Term, int, api.Errno) {
	t.Helper()
	w := whole{rules: texts(rules), fuel: fuel}
	want, wantE := w.rewrite(s, nil)
	steps := w.steps
	if wantE != api.OK {
		steps = 0
	}
	var norm api.Term
	var n int
	var e api.Errno
	for range 2 {
		norm, n, e = rewrite.Normal(rules, read(t, s), fuel)
		if wantE == api.OK && text(norm) != want || wantE != api.OK && len(norm) != 0 || n != steps || e != wantE {
			t.Errorf("Normal(%v, %s, %d) = %v, %d, %v, want %s, %d, %v", w.rules, s, fuel, norm, n, e, want, steps, wantE)
		}
	}
	got, e := rewrite.Run(rules, start(t, s), fuel, nil)
	if e != wantE || got.Steps != w.steps || !slices.Equal(got.Heads, w.heads) || e == api.OK && (len(got.Ops) != 0 || len(got.Vals) != 1 || text(got.Vals[0]) != want) {
		t.Errorf("Run(%v, Start of %s, %d) = %v, %v, want %s, %d, %v, %v", w.rules, s, fuel, show(got), e, want, w.steps, w.heads, wantE)
	}
	return norm, n, e
}
