package rewrite_test

import (
	"math"
	"math/rand"
	"reflect"
	"slices"
	"strings"
	"testing"
	"unsafe"

	"aumbry/api"
	"aumbry/rewrite"
	"aumbry/rule"
)

// span is where something lies in memory, its spare room included. As long as the span is there that isn't used again, for another answer perhaps.
type span struct {
	from, to uintptr
	kept     unsafe.Pointer
}

func spanAt(kept unsafe.Pointer, size uintptr) span {
	return span{uintptr(kept), uintptr(kept) + size, kept}
}

func textSpan(s string) span {
	return spanAt(unsafe.Pointer(unsafe.StringData(s)), uintptr(len(s)))
}

func listSpan[T any](l []T) span {
	var one T
	return spanAt(unsafe.Pointer(unsafe.SliceData(l)), uintptr(cap(l))*unsafe.Sizeof(one))
}

func termSpans(t api.Term) []span {
	l := []span{listSpan(t)}
	for _, c := range t {
		l = append(l, textSpan(c.Name))
	}
	return l
}

func namesSpans(names []string) []span {
	l := []span{listSpan(names)}
	for _, n := range names {
		l = append(l, textSpan(n))
	}
	return l
}

func stateSpans(s api.State) []span {
	l := append(namesSpans(s.Heads), listSpan(s.Ops), listSpan(s.Vals))
	for _, op := range s.Ops {
		l = append(append(l, textSpan(op.Cell.Name)), termSpans(op.Value)...)
	}
	for _, v := range s.Vals {
		l = append(l, termSpans(v)...)
	}
	return l
}

func rulesSpans(rules []api.Rule) []span {
	l := []span{listSpan(rules)}
	for _, r := range rules {
		l = slices.Concat(l, termSpans(r.Left), termSpans(r.Right))
	}
	return l
}

// apart reports whether no two of the spans have memory in common.
func apart(spans []span) bool {
	spans = slices.DeleteFunc(slices.Clone(spans), func(s span) bool { return s.from == s.to })
	slices.SortFunc(spans, func(a, b span) int {
		if a.from < b.from {
			return -1
		}
		return 1
	})
	for i := 1; i < len(spans); i++ {
		if spans[i].from < spans[i-1].to {
			return false
		}
	}
	return true
}

// roomy answers l with spare room behind it, filled with spare ones.
func roomy[T any](l []T, spare func() T) []T {
	out := append(make([]T, 0, len(l)+5), l...)
	for i := len(l); i < cap(out); i++ {
		out[:cap(out)][i] = spare()
	}
	return out
}

func roomyTerm(t *testing.T, s string) api.Term {
	return roomy(read(t, s), func() api.Cell { return api.Cell{Name: strings.Clone("spare"), Arity: 1} })
}

func roomyRules(t *testing.T, texts []string) []api.Rule {
	rules := book(t, texts...)
	for i, s := range texts {
		left, right, _ := strings.Cut(s, " -> ")
		rules[i].Left, rules[i].Right = roomyTerm(t, left), roomyTerm(t, right)
	}
	return roomy(rules, func() api.Rule { return api.Rule{ID: 9, Left: roomyTerm(t, "left"), Right: roomyTerm(t, "right")} })
}

func roomyState(t *testing.T, m model) api.State {
	s := state(t, m)
	for i := range s.Ops {
		// Each name is a text of its own, also where the model's is one text.
		s.Ops[i].Cell.Name = strings.Clone(s.Ops[i].Cell.Name)
		if s.Ops[i].Kind == api.OpHave {
			s.Ops[i].Value = roomyTerm(t, m.ops[i][1:])
		}
	}
	for i := range s.Vals {
		s.Vals[i] = roomyTerm(t, m.vals[i])
	}
	for i := range s.Heads {
		s.Heads[i] = strings.Clone(s.Heads[i])
	}
	s.Ops = roomy(s.Ops, func() api.Op { return api.Op{Kind: 7, Cell: api.Cell{Name: strings.Clone("spare")}} })
	s.Vals = roomy(s.Vals, func() api.Term { return roomyTerm(t, "spare") })
	s.Heads = roomy(s.Heads, func() string { return strings.Clone("spare") })
	return s
}

func wholeOf[T any](l []T) []T { return l[:cap(l)] }

// opened answers a state with the spare room of its lists as their part.
func opened(s api.State) api.State {
	s.Ops, s.Vals, s.Heads = slices.Clone(wholeOf(s.Ops)), slices.Clone(wholeOf(s.Vals)), wholeOf(s.Heads)
	for i := range s.Ops {
		s.Ops[i].Value = wholeOf(s.Ops[i].Value)
	}
	for i := range s.Vals {
		s.Vals[i] = wholeOf(s.Vals[i])
	}
	return s
}

func openedRules(rules []api.Rule) []api.Rule {
	rules = slices.Clone(wholeOf(rules))
	for i := range rules {
		rules[i].Left, rules[i].Right = wholeOf(rules[i].Left), wholeOf(rules[i].Right)
	}
	return rules
}

// spoil writes over all of a state, its spare room included.
func spoil(s api.State) {
	for _, op := range s.Ops {
		clear(wholeOf(op.Value))
	}
	for _, v := range s.Vals {
		clear(wholeOf(v))
	}
	clear(wholeOf(s.Ops))
	clear(wholeOf(s.Vals))
	clear(wholeOf(s.Heads))
}

func spoilRules(rules []api.Rule) {
	for _, r := range rules {
		clear(wholeOf(r.Left))
		clear(wholeOf(r.Right))
	}
	clear(wholeOf(rules))
}

// memorySamples are states that end, that are out of fuel and that are too big, each with values that are had in several places.
var memorySamples = []struct {
	rules []string
	from  model
	fuel  int
}{
	{nil, model{vals: []string{"s(a)"}, heads: []string{"a", "s"}}, 0},
	{nil, model{ops: []string{"=s(a)"}}, 0},
	{nil, model{ops: []string{"g/2", "=s(a)"}, vals: []string{"s(a)"}, heads: []string{"b"}}, 0},
	{plusRules, model{ops: []string{"plus/2", "zero/0", "s/1", "zero/0"}}, 9},
	{plusRules, model{ops: []string{"plus/2", "zero/0", "s/1", "zero/0"}}, 1},
	{[]string{"f(X) -> h(c,X,s(X),X)", "c -> c"}, model{ops: []string{"g/2", "f/1", "=s(b)"}, vals: []string{"a"}, heads: []string{"d"}}, 1},
	{[]string{"f(X) -> h(c,X,s(X),X)", "c -> c"}, model{ops: []string{"g/2", "f/1", "=s(b)"}, vals: []string{"a"}, heads: []string{"d"}}, 0},
	{[]string{"f(X) -> g(X,X)"}, model{ops: []string{"g/2", "f/1"}, vals: []string{"a", tower(32, "b")}}, 5},
	{[]string{"f(X) -> g(X,X)"}, model{ops: []string{"g/2", "f/1"}, vals: []string{"a", tower(31, "b")}}, 5},
	{[]string{"f(X) -> g(X,X)"}, model{ops: []string{"g/2", "f/1"}, vals: []string{"a", tower(8, "b")}}, 5},
	{[]string{"f(X) -> X", "a -> f(s(a))"}, model{ops: []string{"h/4", "=a", "a/0", "f/1"}, vals: []string{"b", "s(c)"}, heads: []string{"a", "f", "g"}}, 3},
}

func TestNewMemory(t *testing.T) {
	for _, c := range memorySamples {
		rules, s, x := roomyRules(t, c.rules), roomyState(t, c.from), roomyTerm(t, "plus(s(zero),f(f(a)))")
		given := slices.Concat(rulesSpans(rules), stateSpans(s), termSpans(x))
		if !apart(given) {
			t.Fatal("the sample itself shares memory")
		}
		for range 2 {
			started, _ := rewrite.Start(x)
			run, _ := rewrite.Run(rules, s, c.fuel, nil)
			again, _ := rewrite.Run(rules, run, c.fuel, nil)
			norm, _, _ := rewrite.Normal(rules, x, 20)
			given = slices.Concat(given, stateSpans(started), stateSpans(run), stateSpans(again), termSpans(norm))
		}
		if !apart(given) {
			t.Errorf("%v, %v: answers share memory with what was handed in, or with each other", c.rules, c.from)
		}
	}
}

// TestHandedInStays: no call changes what it is handed, spare room included, nor sees it change later (R4).
func TestHandedInStays(t *testing.T) {
	const start = "plus(s(zero),f(f(a)))"
	for _, c := range memorySamples {
		rules, s, x := roomyRules(t, c.rules), roomyState(t, c.from), roomyTerm(t, start)
		want, _ := c.from.run(texts(rules), c.fuel, nil)
		wantNorm, _, _ := holdNormal(t, rules, start, 20)
		e := rewrite.Check(s)
		started, _ := rewrite.Start(x)
		run, _ := rewrite.Run(rules, s, c.fuel, nil)
		norm, _, _ := rewrite.Normal(rules, x, 20)
		if e != api.OK || !reflect.DeepEqual(opened(s), opened(roomyState(t, c.from))) || !reflect.DeepEqual(openedRules(rules), openedRules(roomyRules(t, c.rules))) || !slices.Equal(wholeOf(x), wholeOf(roomyTerm(t, start))) {
			t.Errorf("%v, %v: what was handed in has changed", c.rules, c.from)
		}
		spoil(s)
		spoilRules(rules)
		clear(wholeOf(x))
		if show(run).String() != want.String() || show(started).String() != (model{ops: toDo(start, nil)}).String() || !slices.Equal(norm, wantNorm) {
			t.Errorf("%v, %v: the answers hang on what was handed in", c.rules, c.from)
		}
	}
}

// TestAnswersStandAlone: an answer that is written over, its spare room too, moves no other answer and none that comes later.
func TestAnswersStandAlone(t *testing.T) {
	for _, c := range memorySamples {
		rules, s := book(t, c.rules...), state(t, c.from)
		want, _ := c.from.run(texts(rules), c.fuel, nil)
		for range 2 {
			one, _ := rewrite.Run(rules, s, c.fuel, nil)
			other, _ := rewrite.Run(rules, s, c.fuel, nil)
			// Each value of the answer is written over alone: the others are to stay.
			for i := range one.Vals {
				clear(wholeOf(one.Vals[i]))
				one.Vals[i] = read(t, want.vals[i])
				if show(one).String() != want.String() {
					t.Errorf("%v, %v: value %d of the answer is part of another", c.rules, c.from, i)
				}
			}
			for i := range one.Ops {
				if one.Ops[i].Kind != api.OpHave {
					continue
				}
				clear(wholeOf(one.Ops[i].Value))
				one.Ops[i].Value = read(t, want.ops[i][1:])
				if show(one).String() != want.String() {
					t.Errorf("%v, %v: what op %d of the answer has is part of another", c.rules, c.from, i)
				}
			}
			spoil(one)
			if show(other).String() != want.String() {
				t.Errorf("%v, %v: %v, want %v", c.rules, c.from, show(other), want)
			}
		}
	}
}

// keeper is a table that keeps all that it is handed and all that it tells, and writes over it as it likes.
type keeper struct {
	table
	spans []span
	norm  api.Term
	heads []string
}

func (k *keeper) Find(t api.Term) (api.Term, []string, bool) {
	norm, heads, ok := k.table.Find(t)
	k.spans = append(k.spans, termSpans(t)...)
	for i := range wholeOf(t) {
		wholeOf(t)[i] = api.Cell{Name: "spoilt", Arity: 3}
	}
	// What was told earlier is written over, too.
	clear(k.norm)
	clear(k.heads)
	if !ok {
		return nil, nil, false
	}
	for i := range norm {
		norm[i].Name = strings.Clone(norm[i].Name)
	}
	for i := range heads {
		heads[i] = strings.Clone(heads[i])
	}
	k.norm, k.heads = append(k.norm[:0], norm...), append(k.heads[:0], heads...)
	k.spans = slices.Concat(k.spans, termSpans(k.norm), namesSpans(k.heads))
	return k.norm, k.heads, true
}

// TestTablesMemory: what a table is handed is its own, and what it tells may change behind it.
func TestTablesMemory(t *testing.T) {
	tells := table{"zero": {"s(b)", []string{"zero", "b"}}, "s(b)": {"g(a,a)", []string{"s"}}, "s(zero)": {"s(zero)", []string{"z"}}, "plus(g(a,a),s(b))": {"b", nil}, "c": {"s(s(a))", []string{"a", "c"}}, "h(b,b)": {"b", []string{"h"}}}
	for _, c := range memorySamples {
		rules := book(t, c.rules...)
		for fuel := range 4 {
			want, wantE := c.from.run(texts(rules), fuel, tells)
			k := &keeper{table: tells}
			x, e := rewrite.Run(rules, state(t, c.from), fuel, k)
			if show(x).String() != want.String() || e != wantE {
				t.Errorf("Run(%v, %v, %d) = %v, %v, want %v, %v", c.rules, c.from, fuel, show(x), e, want, wantE)
			}
			for _, one := range k.spans {
				for _, other := range stateSpans(x) {
					if !apart([]span{one, other}) {
						t.Fatalf("Run(%v, %v, %d) shares memory with the table", c.rules, c.from, fuel)
					}
				}
			}
		}
	}
}

// badTable answers by a function, whatever that is.
type badTable func(t api.Term) (api.Term, []string, bool)

func (f badTable) Find(t api.Term) (api.Term, []string, bool) { return f(t) }

// nilTable is one of which a nil pointer panics.
type nilTable struct{ l table }

func (n *nilTable) Find(t api.Term) (api.Term, []string, bool) { return n.l.Find(t) }

// TestBadTables: the call ends, and doesn't panic, whatever the table tells.
func TestBadTables(t *testing.T) {
	cells := func(s api.Term) badTable {
		return func(api.Term) (api.Term, []string, bool) { return s, []string{"X", "", "\xff", "a"}, true }
	}
	var none *nilTable
	r := rand.New(rand.NewSource(8))
	bad := []rewrite.Table{
		none, badTable(nil), badTable(func(api.Term) (api.Term, []string, bool) { panic("no table") }), badTable(func(api.Term) (api.Term, []string, bool) { panic(nil) }), badTable(func(x api.Term) (api.Term, []string, bool) { return x[len(x):][1:], nil, true }),
		badTable(func(x api.Term) (api.Term, []string, bool) { return anyCells(r), anyNames(r), r.Intn(2) == 0 }), badTable(func(x api.Term) (api.Term, []string, bool) { return slices.Repeat(x, 3), anyNames(r), true }), cells(read(t, "X")),
	}
	for _, f := range wrong() {
		bad = append(bad, cells(f.t))
	}
	for _, l := range bad {
		for _, texts := range books {
			rules := book(t, texts...)
			for _, s := range samples {
				for _, fuel := range []int{-1, 0, 1, 20} {
					rewrite.Run(rules, start(t, s), fuel, l)
				}
			}
		}
	}
	rewrite.Run(book(t, plusRules...), start(t, "g(a,b)"), 5, cells(make(api.Term, 1<<20)))
	// A table that panics, or is nil within, knows nothing.
	for _, l := range bad[:4] {
		for _, s := range samples {
			rules := book(t, plusRules...)
			want, wantE := show(start(t, s)).run(texts(rules), 5, nil)
			if x, e := rewrite.Run(rules, start(t, s), 5, l); show(x).String() != want.String() || e != wantE {
				t.Errorf("Run with a table that panics: %v, %v, want %v, %v", show(x), e, want, wantE)
			}
		}
	}
}

func anyNames(r *rand.Rand) []string {
	l := make([]string, r.Intn(4)*r.Intn(3))
	for i := range l {
		l[i] = []string{"", "a", "b", "f", "X", "aX", "\xff", "abcdefghi"}[r.Intn(8)]
	}
	return l
}

func anyCells(r *rand.Rand) api.Term {
	cells := make(api.Term, r.Intn(3)*r.Intn(4)*r.Intn(9))
	for i := range cells {
		cells[i] = api.Cell{Name: []string{"", "a", "f", "X", "a", "aX", "\xff", "abcdefghi"}[r.Intn(8)], Arity: []int{0, 0, 0, 1, 1, 2, 4, 5, -1, math.MaxInt, math.MinInt}[r.Intn(11)]}
	}
	return cells
}

func anyTerm(r *rand.Rand) api.Term {
	if r.Intn(2) == 0 {
		return api.Term{{Name: "a"}}
	}
	return anyCells(r)
}

func anyState(r *rand.Rand) api.State {
	s := api.State{Steps: []int{0, 0, 1, -1, math.MinInt}[r.Intn(5)]}
	for range r.Intn(5) {
		s.Ops = append(s.Ops, api.Op{Kind: []int{1, 1, 2, 2, 0, 3, -1, math.MaxInt}[r.Intn(8)], Cell: api.Cell{Name: []string{"", "", "a", "f", "X"}[r.Intn(5)], Arity: []int{0, 0, 1, 2, 4, 5, -1, math.MaxInt, math.MinInt}[r.Intn(9)]}})
		if last := len(s.Ops) - 1; r.Intn(2) == 0 {
			s.Ops[last].Value = anyTerm(r)
		}
	}
	for range r.Intn(3) {
		s.Vals = append(s.Vals, anyTerm(r))
	}
	if r.Intn(4) == 0 {
		s.Heads = anyNames(r)
	}
	return s
}

// TestAnything: every call ends, none panics, at any cells, rules and states (R1), and the errors are those that the sentences name first.
func TestAnything(t *testing.T) {
	r := rand.New(rand.NewSource(9))
	right, some := 0, []api.Rule{{ID: 1, Left: read(t, "a"), Right: read(t, "f(b)")}, {ID: 4, Left: read(t, "f(X)"), Right: read(t, "X")}}
	for range 30000 {
		rules := slices.Clone(some[:r.Intn(3)])
		for range r.Intn(2) * r.Intn(2) {
			rules = append(rules, api.Rule{ID: []int{0, 1, 4, 5, 65535, 65536, -1}[r.Intn(7)], Left: anyTerm(r), Right: anyTerm(r)})
		}
		want := api.OK
		for i := len(rules) - 1; i >= 0; i-- {
			if i > 0 && rules[i].ID <= rules[i-1].ID && want == api.OK {
				want = api.ErrOrder
			}
		}
		for _, one := range slices.Backward(rules) {
			if e := rule.Check(one); e != api.OK {
				want = e
			}
		}
		s, x, fuel := anyState(r), anyTerm(r), r.Intn(6)-2
		normE, runE := want, want
		if _, e := rewrite.Start(x); want == api.OK {
			normE, runE = e, rewrite.Check(s)
		}
		got, e := rewrite.Run(rules, s, fuel, nil)
		if runE != api.OK && (e != runE || show(got).String() != (model{}).String()) {
			t.Errorf("Run(%v, %v, %d) = %v, %v, want %v", rules, s, fuel, got, e, runE)
		}
		if runE == api.OK {
			right++
			holdRun(t, rules, s, fuel, nil)
		}
		norm, n, e := rewrite.Normal(rules, x, fuel)
		if normE != api.OK && e != normE || e != api.OK && (len(norm) != 0 || n != 0) {
			t.Errorf("Normal(%v, %v, %d) = %v, %d, %v, want %v", rules, x, fuel, norm, n, e, normE)
		}
	}
	if right < 100 {
		t.Errorf("only %d states and rules were right", right)
	}
	many := make(api.Term, 1<<20)
	if s, e := rewrite.Start(many); show(s).String() != (model{}).String() || e != api.ErrBig {
		t.Errorf("Start of many cells: %v", e)
	}
	holdCheck(t, "many ops", api.State{Ops: make([]api.Op, 1<<16)}, api.ErrForm)
	holdCheck(t, "many values", api.State{Vals: make([]api.Term, 1<<16)}, api.ErrForm)
}
