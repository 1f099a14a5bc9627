package rewrite_test

import (
	"math"
	"math/rand"
	"slices"
	"strings"
	"testing"

	"aumbry/api"
	"aumbry/rewrite"
)

// TestRunStates: how far a run comes with the fuel that it has, told op by op.
func TestRunStates(t *testing.T) {
	half := tower(32, "a")
	for _, c := range []struct {
		rules []string
		from  model
		fuel  int
		want  model
		e     api.Errno
	}{
		// Out of fuel: the state is that ahead of the op.
		{plusRules, model{ops: []string{"plus/2", "zero/0", "s/1", "zero/0"}}, 0, model{ops: []string{"plus/2"}, vals: []string{"s(zero)", "zero"}, heads: []string{"s", "zero"}}, api.ErrFuel},
		{plusRules, model{ops: []string{"plus/2", "zero/0", "s/1", "zero/0"}}, 1, model{ops: []string{"s/1", "plus/2"}, vals: []string{"zero", "zero"}, steps: 1, heads: []string{"plus", "s", "zero"}}, api.ErrFuel},
		{plusRules, model{ops: []string{"plus/2", "zero/0", "s/1", "zero/0"}}, 2, model{vals: []string{"s(zero)"}, steps: 2, heads: []string{"plus", "s", "zero"}}, api.OK},
		{[]string{"a -> b"}, model{ops: []string{"g/2", "b/0", "a/0"}}, -1, model{ops: []string{"g/2", "b/0", "a/0"}}, api.ErrFuel},
		{[]string{"a -> b"}, model{ops: []string{"g/2", "b/0", "a/0"}}, math.MinInt, model{ops: []string{"g/2", "b/0", "a/0"}}, api.ErrFuel},
		{[]string{"a -> b"}, model{ops: []string{"g/2", "b/0", "a/0"}}, 1, model{vals: []string{"g(b,b)"}, steps: 1, heads: []string{"a", "b", "g"}}, api.OK},
		{[]string{"a -> b"}, model{ops: []string{"g/2", "a/0", "b/0"}}, 0, model{ops: []string{"g/2", "a/0"}, vals: []string{"b"}, heads: []string{"b"}}, api.ErrFuel},
		{[]string{"a -> a"}, model{ops: []string{"a/0"}}, 3, model{ops: []string{"a/0"}, steps: 3, heads: []string{"a"}}, api.ErrFuel},
		{[]string{"a -> s(a)"}, model{ops: []string{"a/0"}}, 3, model{ops: []string{"s/1", "s/1", "s/1", "a/0"}, steps: 3, heads: []string{"a"}}, api.ErrFuel},
		{[]string{"f(X) -> f(f(X))"}, model{ops: []string{"f/1", "a/0"}}, 2, model{ops: []string{"f/1", "f/1", "f/1"}, vals: []string{"a"}, steps: 2, heads: []string{"a", "f"}}, api.ErrFuel},
		{[]string{"g(X,Y) -> h(Y,s(X),c,Y)", "c -> c"}, model{ops: []string{"g/2"}, vals: []string{"a", "s(b)"}}, 1, model{ops: []string{"h/4", "=s(b)", "c/0"}, vals: []string{"s(b)", "s(a)"}, steps: 1, heads: []string{"g", "s"}}, api.ErrFuel},
		{[]string{"g(X,Y) -> h(c,s(Y),X,Y)", "c -> c"}, model{ops: []string{"g/2"}, vals: []string{"a", "s(b)"}}, 1, model{ops: []string{"h/4", "=s(b)", "=a", "s/1", "=s(b)", "c/0"}, steps: 1, heads: []string{"g"}}, api.ErrFuel},
		// Too big: so too, with and without fuel.
		{nil, model{ops: []string{"s/1"}, vals: []string{tower(64, "a")}}, 9, model{ops: []string{"s/1"}, vals: []string{tower(64, "a")}}, api.ErrBig},
		{nil, model{ops: []string{"g/2", "=" + half}, vals: []string{half}, steps: 4, heads: []string{"a"}}, -1, model{ops: []string{"g/2"}, vals: []string{half, half}, steps: 4, heads: []string{"a"}}, api.ErrBig},
		{nil, model{ops: []string{"s/1", "g/2", "=" + tower(31, "a"), "b/0", "=" + half}, vals: nil}, 0, model{}, api.ErrForm},
		{[]string{"f(X) -> b(g(X,X),c)"}, model{ops: []string{"f/1", "=" + half}}, 5, model{ops: []string{"b/2", "c/0", "g/2"}, vals: []string{half, half}, steps: 1, heads: []string{"f"}}, api.ErrBig},
		{[]string{"f(X) -> f(g(X,X))"}, model{ops: []string{"f/1", "a/0"}}, 4, model{ops: []string{"f/1"}, vals: []string{join("g", slices.Repeat([]string{join("g", slices.Repeat([]string{"g(g(a,a),g(a,a))"}, 2))}, 2))}, steps: 4, heads: []string{"a", "f", "g"}}, api.ErrFuel},
		{[]string{"s(X) -> a"}, model{ops: []string{"s/1"}, vals: []string{tower(64, "a")}}, 9, model{ops: []string{"s/1"}, vals: []string{tower(64, "a")}}, api.ErrBig},
		{[]string{"s(X) -> a"}, model{ops: []string{"s/1"}, vals: []string{tower(63, "a")}}, 9, model{vals: []string{"a"}, steps: 1, heads: []string{"a", "s"}}, api.OK},
		// What is had, and what is a value already, is not looked at.
		{[]string{"a -> b", "s(X) -> X"}, model{ops: []string{"g/2", "=s(a)"}, vals: []string{"a"}}, 0, model{vals: []string{"g(a,s(a))"}, heads: []string{"g"}}, api.OK},
		{[]string{"a -> b"}, model{vals: []string{"a"}}, 9, model{vals: []string{"a"}}, api.OK},
		{[]string{"a -> b"}, model{ops: []string{"=a"}}, 9, model{vals: []string{"a"}}, api.OK},
		// Steps and heads that are there already.
		{[]string{"a -> b"}, model{ops: []string{"a/0"}, steps: 40, heads: []string{"aa", "z"}}, 1, model{vals: []string{"b"}, steps: 41, heads: []string{"a", "aa", "b", "z"}}, api.OK},
		{[]string{"a -> b"}, model{ops: []string{"a/0"}, steps: 40, heads: []string{"a", "b"}}, 1, model{vals: []string{"b"}, steps: 41, heads: []string{"a", "b"}}, api.OK},
		{nil, model{vals: []string{"a"}, steps: 5, heads: []string{"c", "d"}}, 0, model{vals: []string{"a"}, steps: 5, heads: []string{"c", "d"}}, api.OK},
		{nil, model{ops: []string{"h/4", "d/0", "b/0", "c/0", "a/0"}, heads: []string{"bb"}}, 0, model{vals: []string{"h(a,c,b,d)"}, heads: []string{"a", "b", "bb", "c", "d", "h"}}, api.OK},
	} {
		s := state(t, c.from)
		if x, e := rewrite.Run(book(t, c.rules...), s, c.fuel, nil); show(x).String() != c.want.String() || e != c.e {
			t.Errorf("Run(%v, %v, %d) = %v, %v, want %v, %v", c.rules, c.from, c.fuel, show(x), e, c.want, c.e)
		}
		if c.e != api.ErrForm {
			holdRun(t, book(t, c.rules...), s, c.fuel, nil)
		}
	}
}

// TestSlices is the first sentence of P7.4: one run, and runs of slices of every size, come to one state.
func TestSlices(t *testing.T) {
	const most = 16
	for _, texts := range books {
		rules := book(t, texts...)
		for _, s := range samples {
			var whole [2*most + 1]string
			for fuel := range whole {
				x, e := rewrite.Run(rules, start(t, s), fuel, nil)
				whole[fuel] = show(x).String() + " " + e.Error()
			}
			for first := range most {
				x, e := rewrite.Run(rules, start(t, s), first, nil)
				if e == api.ErrFuel && x.Steps != first {
					t.Errorf("Run(%v, Start of %s, %d) took %d steps", texts, s, first, x.Steps)
				}
				for then := 0; then < most; then += 1 + then/3 {
					if y, e := rewrite.Run(rules, x, then, nil); show(y).String()+" "+e.Error() != whole[first+then] {
						t.Errorf("Run(%v, Start of %s), %d and then %d: %v, %v, want %s", texts, s, first, then, show(y), e, whole[first+then])
					}
				}
			}
			for _, slice := range []int{1, 2, 3, 7} {
				x, e := start(t, s), api.OK
				for fuel := slice; fuel <= 2*most; fuel += slice {
					x, e = rewrite.Run(rules, x, slice, nil)
					if show(x).String()+" "+e.Error() != whole[fuel] {
						t.Errorf("Run(%v, Start of %s) in slices of %d, %d in all: %v, %v, want %s", texts, s, slice, fuel, show(x), e, whole[fuel])
					}
				}
			}
		}
	}
}

// TestSlicesWithTables: so too with a table, and where no fuel, or less than none, comes between.
func TestSlicesWithTables(t *testing.T) {
	rules := book(t, books[2]...)
	known := table{"plus(s(zero),zero)": {"s(zero)", []string{"plus", "s", "zero"}}, "times(zero,s(zero))": {"zero", []string{"s", "times", "zero"}}, "s(s(zero))": {"s(s(zero))", []string{"s", "zero"}}}
	for _, s := range samples {
		for fuel := range 16 {
			want, wantE := rewrite.Run(rules, start(t, s), fuel, known)
			for first := range fuel + 1 {
				x, _ := rewrite.Run(rules, start(t, s), first, known)
				for _, none := range []int{0, -1, math.MinInt} {
					x, _ = rewrite.Run(rules, x, none, known)
				}
				if x, e := rewrite.Run(rules, x, fuel-first, known); show(x).String() != show(want).String() || e != wantE {
					t.Errorf("%s, %d of %d first: %v, %v, want %v, %v", s, first, fuel, show(x), e, show(want), wantE)
				}
			}
		}
	}
}

// asked is a table that notes what it is asked.
type asked struct {
	table
	list *[]string
}

func (l asked) Find(t api.Term) (api.Term, []string, bool) {
	*l.list = append(*l.list, text(t))
	return l.table.Find(t)
}

func TestTables(t *testing.T) {
	f := []string{"f"}
	for _, c := range []struct {
		rules []string
		s     string
		fuel  int
		known table
		want  model
		e     api.Errno
		asked string
	}{
		// One that knows nothing.
		{plusRules, "plus(s(zero),zero)", 9, table{}, model{vals: []string{"s(zero)"}, steps: 2, heads: []string{"plus", "s", "zero"}}, api.OK, "zero s(zero) zero plus(s(zero),zero) plus(zero,zero) s(zero)"},
		// One that knows the whole: it takes no fuel, and tells the heads instead of the node's name.
		{plusRules, "plus(s(zero),zero)", 0, table{"plus(s(zero),zero)": {"s(zero)", []string{"s", "plus"}}}, model{vals: []string{"s(zero)"}, heads: []string{"plus", "s", "zero"}}, api.OK, "zero s(zero) zero plus(s(zero),zero)"},
		{plusRules, "plus(s(zero),zero)", -1, table{"plus(s(zero),zero)": {"s(zero)", nil}}, model{vals: []string{"s(zero)"}, heads: []string{"s", "zero"}}, api.OK, "zero s(zero) zero plus(s(zero),zero)"},
		// One that knows a part.
		{plusRules, "plus(s(zero),zero)", 1, table{"plus(zero,zero)": {"zero", []string{"plus", "zero"}}}, model{vals: []string{"s(zero)"}, steps: 1, heads: []string{"plus", "s", "zero"}}, api.OK, "zero s(zero) zero plus(s(zero),zero) plus(zero,zero) s(zero)"},
		{plusRules, "plus(s(zero),zero)", 0, table{"plus(zero,zero)": {"zero", []string{"plus", "zero"}}}, model{ops: []string{"plus/2"}, vals: []string{"s(zero)", "zero"}, heads: []string{"s", "zero"}}, api.ErrFuel, "zero s(zero) zero plus(s(zero),zero)"},
		{nil, "g(a,s(b))", 0, table{"b": {"c", []string{"q", "b"}}, "s(c)": {"a", nil}}, model{vals: []string{"g(a,a)"}, heads: []string{"a", "b", "g", "q"}}, api.OK, "a b s(c) g(a,a)"},
		// What it tells is not looked at again, whatever fits there.
		{[]string{"a -> b", "f(X) -> a"}, "f(c)", 9, table{"f(c)": {"f(a)", f}}, model{vals: []string{"f(a)"}, heads: []string{"c", "f"}}, api.OK, "c f(c)"},
		// It is asked ahead of the rules.
		{[]string{"a -> b"}, "a", 9, table{"a": {"c", []string{"a"}}}, model{vals: []string{"c"}, heads: []string{"a"}}, api.OK, "a"},
		{[]string{"a -> b"}, "a", 9, table{"b": {"c", []string{"d", "e"}}}, model{vals: []string{"c"}, steps: 1, heads: []string{"a", "d", "e"}}, api.OK, "a b"},
		// Heads that it tells twice, in any order, or that are there already.
		{nil, "s(a)", 0, table{"s(a)": {"b", []string{"z", "a", "m", "z", "aa", "a0"}}}, model{vals: []string{"b"}, heads: []string{"a", "a0", "aa", "m", "z"}}, api.OK, "a s(a)"},
		// Of what is had, or too big, it isn't asked.
		{[]string{"f(X) -> g(X,X)"}, "f(s(a))", 9, table{"s(a)": {tower(32, "b"), []string{"s"}}, "g(" + tower(32, "b") + "," + tower(32, "b") + ")": {"a", nil}}, model{ops: []string{"g/2"}, vals: []string{tower(32, "b"), tower(32, "b")}, steps: 1, heads: []string{"a", "f", "s"}}, api.ErrBig, "a s(a) f(" + tower(32, "b") + ")"},
		{[]string{"f(X) -> g(X,X)", "b -> c"}, "f(s(a))", 9, table{"s(a)": {"b", f}}, model{vals: []string{"g(b,b)"}, steps: 1, heads: []string{"a", "f", "g"}}, api.OK, "a s(a) f(b) g(b,b)"},
		// 64 cells are none too many to be asked for, nor to be told.
		{nil, tower(64, "a"), 0, table{tower(64, "a"): {"b", []string{"b"}}}, model{vals: []string{"b"}, heads: []string{"a", "b", "s"}}, api.OK, ""},
		{nil, "f(a)", 0, table{"f(a)": {tower(64, "a"), nil}}, model{vals: []string{tower(64, "a")}, heads: []string{"a"}}, api.OK, "a f(a)"},
	} {
		rules := book(t, c.rules...)
		holdRun(t, rules, start(t, c.s), c.fuel, c.known)
		var list []string
		x, e := rewrite.Run(rules, start(t, c.s), c.fuel, asked{c.known, &list})
		if show(x).String() != c.want.String() || e != c.e {
			t.Errorf("Run(%v, Start of %s, %d, %v) = %v, %v, want %v, %v", c.rules, c.s, c.fuel, c.known, show(x), e, c.want, c.e)
		}
		if got := strings.Join(list, " "); c.asked != "" && got != c.asked {
			t.Errorf("Run(%v, Start of %s, %d, %v) asks for %s, want %s", c.rules, c.s, c.fuel, c.known, got, c.asked)
		}
	}
}

// TestNoTable: nil and a table that knows nothing come to the same.
func TestNoTable(t *testing.T) {
	var none table
	for _, texts := range books {
		rules := book(t, texts...)
		for _, s := range samples {
			for _, fuel := range []int{-1, 0, 2, 9} {
				x, e := rewrite.Run(rules, start(t, s), fuel, nil)
				for _, l := range []table{none, {}, {"unknown": {"a", []string{"a"}}}} {
					if y, other := rewrite.Run(rules, start(t, s), fuel, l); show(x).String() != show(y).String() || e != other {
						t.Errorf("Run(%v, Start of %s, %d) = %v, %v, with a table that knows nothing %v, %v", texts, s, fuel, show(x), e, show(y), other)
					}
				}
			}
		}
	}
}

// tablesOf are tables that tell what Normal would: of all terms, of each third of them, and of some alone.
func tablesOf(rules []api.Rule, terms []api.Term) []table {
	l := make([]table, 4, 4+len(terms))
	for i := range l {
		l[i] = table{}
	}
	for i, x := range terms {
		norm, _, e := rewrite.Normal(rules, x, 60)
		if e != api.OK {
			continue
		}
		s, _ := rewrite.Start(x)
		s, _ = rewrite.Run(rules, s, 60, nil)
		k := known{text(norm), s.Heads}
		l[0][text(x)], l[1+i%3][text(x)] = k, k
		if i%5 == 0 {
			l = append(l, table{text(x): k})
		}
	}
	return l
}

// TestTablesOfNormalForms is the last sentence of P7.4.
func TestTablesOfNormalForms(t *testing.T) {
	fewer, more := 0, 0
	for _, texts := range books {
		rules := book(t, texts...)
		var terms []api.Term
		for i, s := range append(everyTerm(3, "a", "b"), samples...) {
			if x := read(t, s); i%2 == 0 || len(x) < 12 {
				terms = append(terms, x)
			}
		}
		for _, l := range tablesOf(rules, terms) {
			for _, s := range samples {
				for _, fuel := range []int{0, 3, 20} {
					x, e := rewrite.Run(rules, start(t, s), fuel, nil)
					y, withE := rewrite.Run(rules, start(t, s), fuel, l)
					if e != api.ErrFuel && (e != withE || show(y).String() != show(api.State{Ops: x.Ops, Vals: x.Vals, Steps: y.Steps, Heads: x.Heads}).String()) {
						t.Errorf("Run(%v, Start of %s, %d) = %v, %v, with a table %v, %v", texts, s, fuel, show(x), e, show(y), withE)
					}
					if y.Steps > x.Steps && e != api.ErrFuel {
						t.Errorf("Run(%v, Start of %s, %d) takes %d steps, with a table %d", texts, s, fuel, x.Steps, y.Steps)
					}
					if y.Steps < x.Steps {
						fewer++
					}
					if e == api.ErrFuel && withE == api.OK {
						more++
						if norm, n, e := rewrite.Normal(rules, read(t, s), 500); e != api.OK || !slices.Equal(norm, y.Vals[0]) || n < y.Steps {
							t.Errorf("Normal(%v, %s, 500) = %v, %d, %v, Run with a table %v", texts, s, norm, n, e, show(y))
						}
					}
				}
			}
		}
	}
	if fewer == 0 || more == 0 {
		t.Errorf("%d runs took fewer steps, %d ended that would not have", fewer, more)
	}
}

// grow answers the text of a term of n cells, drawn from r.
func grow(r *rand.Rand, n int, leaves []string) string {
	if n == 1 {
		return leaves[r.Intn(len(leaves))]
	}
	rest := n - 1
	arity := min(rest, 1+r.Intn(3))
	var kids []string
	for k := arity; k > 0; k-- {
		part := rest
		if k > 1 {
			part = 1 + r.Intn(rest-k+1)
		}
		kids = append(kids, grow(r, part, leaves))
		rest -= part
	}
	return join([]string{"f", "g", "a"}[r.Intn(3)], kids)
}

// drawRules answers up to five right rules.
func drawRules(t *testing.T, r *rand.Rand) []api.Rule {
	var l []api.Rule
	id := r.Intn(3)
	for range 1 + r.Intn(5) {
		left := grow(r, 1+r.Intn(5), []string{"a", "b", "X", "Y", "X"})
		if variable(left) {
			left = "a(" + left + ")"
		}
		leaves := []string{"a", "b"}
		for _, v := range []string{"X", "Y"} {
			if strings.Contains(left, v) {
				leaves = append(leaves, v, v)
			}
		}
		one := book(t, left+" -> "+grow(r, 1+r.Intn(5), leaves))[0]
		one.ID = id
		id += 1 + r.Intn(9)
		l = append(l, one)
	}
	return l
}

// drawState answers a right state: ops are drawn from the end on, till there is but one value left.
func drawState(t *testing.T, r *rand.Rand) api.State {
	ground := []string{"a", "b"}
	m := model{steps: r.Intn(5)}
	for range r.Intn(4) {
		m.vals = append(m.vals, grow(r, 1+r.Intn(9), ground))
	}
	count := len(m.vals)
	for i := 0; i < 12 || count != 1; i++ {
		switch n := r.Intn(5); {
		case n == 4 && count < 4 && i < 20:
			m.ops = append(m.ops, "="+grow(r, 1+r.Intn(20), ground))
			count++
		case n < 4 && n <= count && (n > 0 || i < 20 || count == 0):
			m.ops = append(m.ops, []string{"f", "g", "a", "b"}[r.Intn(4)]+"/"+string(rune('0'+n)))
			count += 1 - n
		}
	}
	slices.Reverse(m.ops)
	for _, h := range []string{"a", "b", "c", "f", "g", "gg"} {
		if r.Intn(3) == 0 {
			m.heads = append(m.heads, h)
		}
	}
	return state(t, m)
}

func TestManyRuns(t *testing.T) {
	r := rand.New(rand.NewSource(7))
	ends, steps := map[api.Errno]int{}, 0
	for range 8000 {
		rules, s, fuel := drawRules(t, r), drawState(t, r), r.Intn(20)-1
		holdCheck(t, "a drawn state", s, api.OK)
		var tells table
		if r.Intn(2) == 0 {
			tells = table{}
			for range r.Intn(6) {
				tells[grow(r, 1+r.Intn(4), []string{"a", "b"})] = known{grow(r, 1+r.Intn(30), []string{"a", "b"}), []string{"f", "d", "b"}[:r.Intn(4)]}
			}
		}
		x, e := holdRun(t, rules, s, fuel, tells)
		ends[e]++
		steps += x.Steps - s.Steps
		holdNormal(t, rules, grow(r, 1+r.Intn(12), []string{"a", "b"}), fuel)
	}
	if ends[api.OK] == 0 || ends[api.ErrFuel] == 0 || ends[api.ErrBig] == 0 || steps == 0 {
		t.Errorf("the runs ended so: %v, with %d steps", ends, steps)
	}
}

// TestLongRuns: many steps, and many ops.
func TestLongRuns(t *testing.T) {
	if x, e := rewrite.Run(book(t, "f(X) -> f(X)"), start(t, "f(a)"), 100000, nil); e != api.ErrFuel || x.Steps != 100000 || len(x.Ops) != 1 || len(x.Vals) != 1 {
		t.Errorf("f goes round: %d steps, %d ops, %v", x.Steps, len(x.Ops), e)
	}
	x, e := rewrite.Run(book(t, "a -> g(a,b)"), start(t, "a"), 100000, nil)
	if e != api.ErrFuel || x.Steps != 100000 || len(x.Ops) != 200001 || len(x.Vals) != 0 || rewrite.Check(x) != api.OK {
		t.Errorf("a grows: %d steps, %d ops, %v", x.Steps, len(x.Ops), e)
	}
	if x, e := rewrite.Run(book(t, "g(X,Y) -> Y"), x, 100000, nil); e != api.OK || text(x.Vals[0]) != "b" || x.Steps != 200000 {
		t.Errorf("what has grown, taken away: %v, %v", show(x), e)
	}
}
