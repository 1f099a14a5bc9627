package rewrite_test

import (
	"math"
	"slices"
	"strings"
	"testing"

	"aumbry/api"
	"aumbry/rewrite"
	"aumbry/rule"
	"aumbry/term"
)

var plusRules = []string{"plus(zero,X) -> X", "plus(s(X),Y) -> s(plus(X,Y))"}

// books are rules that end, that go round, that grow, of which several fit, and none.
var books = [][]string{
	nil,
	plusRules,
	{"plus(zero,X) -> X", "plus(s(X),Y) -> s(plus(X,Y))", "times(zero,X) -> zero", "times(s(X),Y) -> plus(Y,times(X,Y))"},
	{"a -> b", "b -> c", "s(c) -> c"},
	{"a -> b", "b -> a"},
	{"a -> a"},
	{"a -> s(a)"},
	{"f(X) -> f(X)"},
	{"f(X) -> f(f(X))"},
	{"f(X) -> f(g(X,X))"},
	{"f(X) -> g(X,X)", "g(X,Y) -> h(Y,X,Y)", "h(X,X,X) -> f(X)"},
	{"f(X) -> a", "f(b) -> b", "a -> b"},
	{"f(b) -> c", "f(X) -> a", "g(X,X) -> X", "g(X,Y) -> g(Y,Y)"},
	{"g(X,g(Y,Z)) -> g(g(X,Y),Z)"},
	{"g(f(X),Y) -> f(g(X,Y))", "f(f(X)) -> X", "g(a,X) -> X"},
	{"s(s(s(s(X)))) -> h(X,s(X),a,b)", "h(X,Y,a,b) -> g(Y,X)", "g(X,X) -> a"},
	{"s(X) -> " + tower(8, "X"), tower(8, "a") + " -> a"},
	{"g(X,Y) -> h(Y,X,Y,X)", "h(X,Y,X,Y) -> s(X)"},
}

// samples are ground terms that the books' rules fit somewhere, or nowhere.
var samples = []string{
	"a", "b", "zero", "s(a)", "f(a)", "f(b)", "g(a,b)", "g(a,a)", "f(f(a))", "f(g(a,b))", "g(f(a),f(b))", "g(a,g(b,g(a,b)))", "h(a,a,a)", "h(a,b,a,b)", "s(s(s(s(a))))", "s(s(s(s(s(b)))))", "g(g(a,b),g(b,a))", "f(s(g(f(a),s(b))))",
	"plus(zero,zero)", "plus(s(zero),zero)", "plus(s(s(zero)),s(zero))", "plus(plus(zero,zero),s(plus(zero,zero)))", "plus(plus(s(zero),s(s(zero))),plus(s(s(s(zero))),s(zero)))", "times(s(s(zero)),s(s(s(zero))))", "times(times(s(zero),s(s(zero))),s(s(zero)))", "plus(zero,a)", "plus(b,zero)", "plus(zero)", "zero(zero,zero)",
	tower(64, "a"), tower(64, "b"), "f(" + tower(30, "b") + ")", "f(" + tower(63, "c") + ")", "g(" + tower(31, "a") + "," + tower(32, "a") + ")",
}

func TestExamples(t *testing.T) {
	rules := book(t, plusRules...)
	if x, n, e := rewrite.Normal(rules, read(t, "plus(s(zero),zero)"), 2); text(x) != "s(zero)" || n != 2 || e != api.OK {
		t.Errorf("Normal = %v, %d, %v", x, n, e)
	}
	if x, n, e := rewrite.Normal(rules, read(t, "plus(s(zero),zero)"), 1); len(x) != 0 || n != 0 || e != api.ErrFuel {
		t.Errorf("Normal with fuel 1 = %v, %d, %v", x, n, e)
	}
	if s, e := rewrite.Start(read(t, "g(a,b)")); show(s).String() != (model{ops: []string{"g/2", "b/0", "a/0"}}).String() || e != api.OK {
		t.Errorf("Start(g(a,b)) = %v, %v", show(s), e)
	}
}

func TestStart(t *testing.T) {
	for s, ops := range map[string]string{
		"a": "a/0", "abcdefgh": "abcdefgh/0", "s(a)": "s/1 a/0", "s(s(s(a)))": "s/1 s/1 s/1 a/0", "g(a,b)": "g/2 b/0 a/0", "h(a,b,c,d)": "h/4 d/0 c/0 b/0 a/0", "g(s(a),b)": "g/2 b/0 s/1 a/0", "g(a,s(b))": "g/2 s/1 b/0 a/0", "g(g(a,b),g(c,d))": "g/2 g/2 d/0 c/0 g/2 b/0 a/0", "h(a,s(b),g(c,s(d)))": "h/3 g/2 s/1 d/0 c/0 s/1 b/0 a/0", "g(a,a)": "g/2 a/0 a/0", "g(g(a,a),a)": "g/2 a/0 g/2 a/0 a/0",
		tower(64, "a"): strings.Repeat("s/1 ", 63) + "a/0",
	} {
		want := model{ops: strings.Fields(ops)}
		for range 2 {
			if x, e := rewrite.Start(read(t, s)); show(x).String() != want.String() || e != api.OK {
				t.Errorf("Start(%s) = %v, %v, want %v", s, show(x), e, want)
			}
		}
	}
}

// everyTerm answers the texts of all terms of up to most cells over a few names.
func everyTerm(most int, leaves ...string) []string {
	bySize := [][]string{nil, leaves}
	for n := 2; n <= most; n++ {
		var l []string
		for _, kid := range bySize[n-1] {
			l = append(l, "s("+kid+")")
		}
		for first := 1; first < n-1; first++ {
			for _, a := range bySize[first] {
				for _, b := range bySize[n-1-first] {
					l = append(l, "g("+a+","+b+")")
				}
			}
		}
		bySize = append(bySize, l)
	}
	return slices.Concat(bySize...)
}

// TestStartEveryTerm: what Start tells is right, and done without rules it is the term again.
func TestStartEveryTerm(t *testing.T) {
	for _, s := range append(everyTerm(6, "a", "b"), samples...) {
		x, e := rewrite.Start(read(t, s))
		if want := (model{ops: toDo(s, nil)}); show(x).String() != want.String() || e != api.OK || rewrite.Check(x) != api.OK {
			t.Errorf("Start(%s) = %v, %v, want %v", s, show(x), e, want)
		}
		if y, e := holdRun(t, nil, x, 0, nil); e != api.OK || len(y.Vals) != 1 || text(y.Vals[0]) != s || y.Steps != 0 {
			t.Errorf("Start(%s), done without rules: %v, %v", s, show(y), e)
		}
	}
}

// fault is a list of cells that is no right term, with the error that it is to have.
type fault struct {
	t api.Term
	e api.Errno
}

// wrong are faults of every kind.
func wrong() map[string]fault {
	a, x := api.Cell{Name: "a"}, api.Cell{Name: "X"}
	return map[string]fault{
		"no list": {nil, api.ErrForm}, "no cells": {api.Term{}, api.ErrForm}, "a cell too few": {api.Term{{Name: "s", Arity: 1}}, api.ErrForm}, "a cell too many": {api.Term{a, a}, api.ErrForm}, "two variables": {api.Term{x, x}, api.ErrForm}, "a cell too few over a variable": {api.Term{{Name: "g", Arity: 2}, x}, api.ErrForm},
		"no name": {api.Term{{}}, api.ErrName}, "no right name": {api.Term{{Name: "aX"}}, api.ErrName}, "no right name beside a variable": {api.Term{{Name: "g", Arity: 2}, x, {Name: "1"}}, api.ErrName},
		"arity -1": {api.Term{{Name: "a", Arity: -1}}, api.ErrArity}, "arity 5": {append(api.Term{{Name: "a", Arity: 5}}, slices.Repeat(api.Term{a}, 5)...), api.ErrArity}, "a variable over one": {api.Term{{Name: "X", Arity: 1}, a}, api.ErrArity}, "a great arity": {api.Term{{Name: "a", Arity: math.MaxInt}}, api.ErrArity}, "a least arity": {api.Term{{Name: "X", Arity: math.MinInt}}, api.ErrArity},
		"65 cells": {append(slices.Repeat(api.Term{{Name: "s", Arity: 1}}, 64), a), api.ErrBig}, "65 cells with a variable": {append(slices.Repeat(api.Term{{Name: "s", Arity: 1}}, 64), x), api.ErrBig}, "65 empty cells": {make(api.Term, 65), api.ErrBig},
	}
}

// withVariables are right terms that aren't ground.
var withVariables = []string{"X", "X0", "s(X)", "g(X,a)", "g(a,X)", "h(a,b,c,s(X))", "g(X,Y)", "plus(zero,X)", tower(64, "X")}

func TestStartFaults(t *testing.T) {
	none := model{}.String()
	for what, bad := range wrong() {
		for range 2 {
			if s, e := rewrite.Start(bad.t); show(s).String() != none || e != bad.e {
				t.Errorf("Start of %s = %v, %v, want %v", what, show(s), e, bad.e)
			}
		}
	}
	for _, x := range withVariables {
		for range 2 {
			if s, e := rewrite.Start(read(t, x)); show(s).String() != none || e != api.ErrVar {
				t.Errorf("Start(%s) = %v, %v", x, show(s), e)
			}
		}
	}
}

func holdCheck(t *testing.T, what string, s api.State, want api.Errno) {
	t.Helper()
	for range 2 {
		if e := rewrite.Check(s); e != want {
			t.Errorf("Check of %s, %v: %v, want %v", what, show(s), e, want)
		}
	}
}

func TestCheckRight(t *testing.T) {
	for what, m := range map[string]model{
		"one value": {vals: []string{"a"}}, "one value of 64 cells": {vals: []string{tower(64, "a")}}, "one op": {ops: []string{"a/0"}}, "one op that has": {ops: []string{"=s(a)"}}, "an op over a value": {ops: []string{"s/1"}, vals: []string{"a"}}, "an op over four values": {ops: []string{"h/4"}, vals: []string{"a", "b", "a", "c"}},
		"values that are made and had": {ops: []string{"h/4", "=a", "s/1", "=b", "a/0"}, vals: []string{"c"}}, "a value below, taken last": {ops: []string{"g/2", "g/2", "a/0", "b/0"}, vals: []string{"a"}},
		"steps": {vals: []string{"a"}, steps: 7}, "many steps": {vals: []string{"a"}, steps: math.MaxInt}, "heads": {vals: []string{"a"}, heads: []string{"a", "a0", "aa", "b", "plus2"}}, "one head": {ops: []string{"a/0"}, heads: []string{"abcdefgh"}}, "heads of other symbols": {ops: []string{"a/0"}, heads: []string{"z"}},
		"two values of 64 cells below an op":   {ops: []string{"g/2"}, vals: []string{tower(64, "a"), tower(64, "b")}},
		"a value of 64 cells below an op":      {ops: []string{"s/1"}, vals: []string{tower(64, "a")}},
		"64 cells that are had, below two ops": {ops: []string{"s/1", "s/1", "=" + tower(64, "a")}},
		"64 cells, had twice":                  {ops: []string{"g/2", "=" + tower(64, "a"), "=" + tower(64, "a")}},
		"100 ops within one another":           {ops: append(slices.Repeat([]string{"s/1"}, 100), "a/0")},
		"100 values":                           {ops: slices.Repeat([]string{"g/2"}, 99), vals: slices.Repeat([]string{"a"}, 100)},
		"some thousands of cells":              {ops: append(slices.Repeat([]string{"h/4"}, 40), slices.Repeat([]string{"=" + tower(64, "a")}, 121)...)},
	} {
		holdCheck(t, what, state(t, m), api.OK)
	}
	a := api.Term{{Name: "a"}}
	holdCheck(t, "an empty list as a Value", api.State{Ops: []api.Op{{Kind: api.OpMake, Cell: a[0], Value: api.Term{}}}}, api.OK)
	holdCheck(t, "empty lists", api.State{Ops: []api.Op{}, Vals: []api.Term{a}, Heads: []string{}}, api.OK)
}

// TestCheckOps: an op that isn't right in one thing alone, in the place of a right one: last, in the middle and first.
func TestCheckOps(t *testing.T) {
	a, cell := read(t, "a"), api.Cell{Name: "a"}
	faults := map[string]api.Op{
		"nothing": {}, "kind 0 with a cell": {Cell: cell}, "kind 0 with a value": {Value: a}, "kind 3 with a cell": {Kind: 3, Cell: cell}, "kind 3 with a value": {Kind: 3, Value: a}, "kind -1": {Kind: -1, Cell: cell}, "the greatest kind": {Kind: math.MaxInt, Value: a}, "the least kind": {Kind: math.MinInt, Cell: cell},
		"OpMake without a name": {Kind: api.OpMake}, "OpMake of a variable": {Kind: api.OpMake, Cell: api.Cell{Name: "X"}}, "OpMake of no name that may be": {Kind: api.OpMake, Cell: api.Cell{Name: "aX"}}, "OpMake of a name too long": {Kind: api.OpMake, Cell: api.Cell{Name: "abcdefghi"}}, "OpMake of a digit": {Kind: api.OpMake, Cell: api.Cell{Name: "0"}},
		"OpMake over -1": {Kind: api.OpMake, Cell: api.Cell{Name: "a", Arity: -1}}, "OpMake over the least": {Kind: api.OpMake, Cell: api.Cell{Name: "a", Arity: math.MinInt}},
		"OpMake with a Value": {Kind: api.OpMake, Cell: cell, Value: a}, "OpMake with a Value that is no term": {Kind: api.OpMake, Cell: cell, Value: api.Term{{}}},
		"OpHave with a Cell": {Kind: api.OpHave, Cell: cell, Value: a}, "OpHave with a name": {Kind: api.OpHave, Cell: api.Cell{Name: "X"}, Value: a}, "OpHave with an Arity below 0": {Kind: api.OpHave, Cell: api.Cell{Arity: -1}, Value: a},
	}
	for what, bad := range wrong() {
		faults["OpHave with "+what] = api.Op{Kind: api.OpHave, Value: bad.t}
	}
	for _, s := range withVariables {
		faults["OpHave with "+s] = api.Op{Kind: api.OpHave, Value: read(t, s)}
	}
	for what, bad := range faults {
		holdCheck(t, what, api.State{Ops: []api.Op{bad}}, api.ErrForm)
		right := state(t, model{ops: []string{"h/3", "=b", "a/0", "=s(b)"}})
		holdCheck(t, "the test's own state", right, api.OK)
		for i := 1; i < 4; i++ {
			s := right
			s.Ops = slices.Clone(right.Ops)
			s.Ops[i] = bad
			holdCheck(t, what, s, api.ErrForm)
		}
	}
	// An arity above the greatest, and an Arity of what is had, with as many values as would be taken.
	five := state(t, model{vals: []string{"a", "a", "a", "a", "a"}})
	five.Ops = []api.Op{{Kind: api.OpMake, Cell: api.Cell{Name: "a", Arity: 5}}}
	holdCheck(t, "OpMake over 5", five, api.ErrForm)
	five.Ops[0].Cell.Arity = math.MaxInt
	holdCheck(t, "OpMake over the greatest", five, api.ErrForm)
	one := state(t, model{vals: []string{"a"}})
	one.Ops = []api.Op{{Kind: api.OpHave, Cell: api.Cell{Arity: 1}, Value: a}}
	holdCheck(t, "OpHave with an Arity", one, api.ErrForm)
	pair := state(t, model{ops: []string{"g/2", "a/0"}})
	pair.Ops[1].Cell.Arity = -1
	holdCheck(t, "OpMake over -1, one value more than it should leave", pair, api.ErrForm)
	// An op that is wrong and never lacks a value, where its values are counted as its Cell tells.
	two := state(t, model{ops: []string{"a/0", "a/0"}})
	two.Ops[0].Cell.Arity = 1
	holdCheck(t, "OpMake over 1", two, api.OK)
	two.Ops[0].Cell.Name = "X"
	holdCheck(t, "OpMake of a variable over 1", two, api.ErrForm)
}

func TestCheckValues(t *testing.T) {
	bad := map[string]api.Term{}
	for what, f := range wrong() {
		bad[what] = f.t
	}
	for _, s := range withVariables {
		bad[s] = read(t, s)
	}
	for what, v := range bad {
		holdCheck(t, what, api.State{Vals: []api.Term{v}}, api.ErrForm)
		for i := range 3 {
			s := state(t, model{ops: []string{"h/4", "a/0"}, vals: []string{"a", "b", "c"}})
			holdCheck(t, "the test's own state", s, api.OK)
			s.Vals[i] = v
			holdCheck(t, what, s, api.ErrForm)
		}
	}
}

func TestCheckStepsAndHeads(t *testing.T) {
	for _, steps := range []int{-1, -2, -65536, math.MinInt} {
		holdCheck(t, "steps below 0", state(t, model{vals: []string{"a"}, steps: steps}), api.ErrForm)
		holdCheck(t, "steps below 0", state(t, model{ops: []string{"a/0"}, steps: steps}), api.ErrForm)
	}
	for _, heads := range [][]string{
		{""}, {"X"}, {"aX"}, {"abcdefghi"}, {"0"}, {"a", "bX"}, {"", "a"}, {"X", "a"}, {"a", "b", "c("}, {"a "},
		{"b", "a"}, {"a", "c", "b"}, {"b", "a", "c"}, {"aa", "a"}, {"a", "ab", "aa"}, {"a1", "a0"}, {"a", "b", "a"}, {"z", "plus"}, {"aa", "a0"},
		{"a", "a"}, {"a", "b", "b"}, {"a", "a", "b"}, {"plus", "plus"},
	} {
		holdCheck(t, "heads", state(t, model{vals: []string{"a"}, heads: heads}), api.ErrForm)
		holdCheck(t, "heads", state(t, model{ops: []string{"s/1", "a/0"}, heads: heads}), api.ErrForm)
	}
}

func TestCheckCounts(t *testing.T) {
	for what, m := range map[string]model{
		"nothing": {}, "two values": {vals: []string{"a", "b"}}, "two values alike": {vals: []string{"a", "a"}}, "two ops": {ops: []string{"a/0", "b/0"}}, "two ops that have": {ops: []string{"=a", "=b"}}, "an op beside a value": {ops: []string{"a/0"}, vals: []string{"b"}}, "a had one beside a value": {ops: []string{"=a"}, vals: []string{"b"}}, "five": {vals: []string{"a", "a", "a", "a", "a"}},
		"an op that lacks one": {ops: []string{"s/1"}}, "an op that lacks one of two": {ops: []string{"g/2"}, vals: []string{"a"}}, "an op that lacks one of four": {ops: []string{"h/4", "a/0"}, vals: []string{"a", "a"}}, "an op that lacks one which comes later": {ops: []string{"a/0", "s/1"}}, "ops in the order of a text": {ops: []string{"a/0", "b/0", "g/2"}}, "an op that lacks one which comes later, one too many then": {ops: []string{"=a", "g/2"}, vals: []string{"b"}}, "an op that lacks one, and one that takes it": {ops: []string{"g/2", "a/0", "g/2", "b/0"}},
		"an op that lacks one, and in the end there is one": {ops: []string{"a/0", "s/1", "s/1"}}, "two left over": {ops: []string{"g/2"}, vals: []string{"a", "b", "c"}}, "one left over below": {ops: []string{"s/1", "=a"}, vals: []string{"b"}},
	} {
		holdCheck(t, what, state(t, m), api.ErrForm)
		m.steps, m.heads = 3, []string{"a", "b"}
		holdCheck(t, what, state(t, m), api.ErrForm)
	}
}

// comesToOne does the ops by putting texts together, however long these are.
func comesToOne(m model) bool {
	vals := slices.Clone(m.vals)
	for _, op := range slices.Backward(m.ops) {
		if value, ok := strings.CutPrefix(op, "="); ok {
			vals = append(vals, value)
			continue
		}
		n := int(op[len(op)-1] - '0')
		if n > len(vals) {
			return false
		}
		vals = append(vals[:len(vals)-n:len(vals)-n], join(op[:len(op)-2], vals[len(vals)-n:]))
	}
	return len(vals) == 1
}

// TestCheckEveryShortState: all lists of a few ops above a few values; what is right is done to its end too.
func TestCheckEveryShortState(t *testing.T) {
	kinds := []string{"a/0", "s/1", "g/2", "h/3", "=s(b)"}
	lists := [][]string{nil}
	for from := 0; len(lists[from]) < 5; from++ {
		for _, k := range kinds {
			lists = append(lists, append(slices.Clone(lists[from]), k))
		}
	}
	right := 0
	for _, ops := range lists {
		for n := range 5 {
			m := model{ops: ops, vals: []string{"a", "b", "s(a)", "c"}[:n]}
			s := state(t, m)
			want := api.ErrForm
			if comesToOne(m) {
				want, right = api.OK, right+1
			}
			if e := rewrite.Check(s); e != want {
				t.Errorf("Check(%v) = %v, want %v", m, e, want)
			}
			if want == api.OK {
				holdRun(t, nil, s, 0, nil)
			} else if x, e := rewrite.Run(nil, s, 9, nil); show(x).String() != (model{}).String() || e != want {
				t.Errorf("Run of %v: %v, %v", m, show(x), e)
			}
		}
	}
	if right < 100 {
		t.Errorf("only %d states were right", right)
	}
}

// wrongRule is a rule that isn't right, with the error that it is to have.
type wrongRule struct {
	r api.Rule
	e api.Errno
}

// wrongRules are rules that aren't right, for each place in rule.Check's sentence at least one.
func wrongRules(t *testing.T) map[string]wrongRule {
	one := func(id int, s string) api.Rule {
		r := book(t, s)[0]
		r.ID = id
		return r
	}
	l := map[string]wrongRule{
		"ID -1": {one(-1, "f(X) -> X"), api.ErrRange}, "ID 65536": {one(65536, "f(X) -> X"), api.ErrRange}, "the least ID": {one(math.MinInt, "f(X) -> X"), api.ErrRange}, "the greatest ID": {one(math.MaxInt, "f(X) -> X"), api.ErrRange},
		"9 cells on the left": {one(5, tower(9, "X")+" -> X"), api.ErrBig}, "9 cells on the right": {one(5, "f(X) -> "+tower(9, "X")), api.ErrBig}, "a variable on the left": {one(5, "X -> a"), api.ErrRule}, "a variable on both sides": {one(5, "X -> X"), api.ErrRule}, "a variable that is nowhere on the left": {one(5, "f(X) -> g(X,Y)"), api.ErrVar}, "nothing": {api.Rule{}, api.ErrForm},
	}
	for what, bad := range wrong() {
		l[what+" on the left"] = wrongRule{api.Rule{ID: 5, Left: bad.t, Right: read(t, "a")}, bad.e}
		l[what+" on the right"] = wrongRule{api.Rule{ID: 5, Left: read(t, "f(X)"), Right: bad.t}, bad.e}
	}
	for what, bad := range l {
		if rule.Check(bad.r) != bad.e {
			t.Fatalf("the test's own rule with %s: %v", what, rule.Check(bad.r))
		}
	}
	return l
}

// holdRefused: the error is told by Run of a right state and of wrong ones, and by Normal of right terms and wrong ones, with nothing beside it.
func holdRefused(t *testing.T, what string, rules []api.Rule, want api.Errno) {
	t.Helper()
	states := []api.State{start(t, "f(a)"), {Vals: []api.Term{{{Name: "a"}}}}, {}, {Steps: -1}, {Ops: make([]api.Op, 2)}}
	terms := []api.Term{read(t, "f(a)"), read(t, "X"), nil, wrong()["65 cells"].t, wrong()["no name"].t}
	for _, fuel := range []int{-1, 0, 9} {
		for _, s := range states {
			for _, l := range []rewrite.Table{nil, table{"f(a)": {norm: "a"}}} {
				if x, e := rewrite.Run(rules, s, fuel, l); show(x).String() != (model{}).String() || e != want {
					t.Errorf("Run with %s: %v, %v, want %v", what, show(x), e, want)
				}
			}
		}
		for _, x := range terms {
			if norm, n, e := rewrite.Normal(rules, x, fuel); len(norm) != 0 || n != 0 || e != want {
				t.Errorf("Normal with %s: %v, %d, %v, want %v", what, norm, n, e, want)
			}
		}
	}
}

// TestWrongRules: the error of the first rule that has one, also ahead of that of the order.
func TestWrongRules(t *testing.T) {
	right := book(t, "a -> b", "f(X) -> X", "g(X,Y) -> Y")
	all := wrongRules(t)
	for what, bad := range all {
		holdRefused(t, what, []api.Rule{bad.r}, bad.e)
		for i := range 4 {
			holdRefused(t, what, slices.Insert(slices.Clone(right), i, bad.r), bad.e)
		}
		holdRefused(t, what+" behind IDs that don't rise", []api.Rule{right[1], right[0], bad.r}, bad.e)
		holdRefused(t, what+" ahead of IDs that don't rise", []api.Rule{bad.r, right[1], right[1]}, bad.e)
	}
	for what, bad := range all {
		for also, other := range all {
			if x, e := rewrite.Run([]api.Rule{right[0], bad.r, other.r}, start(t, "a"), 1, nil); show(x).String() != (model{}).String() || e != bad.e {
				t.Errorf("Run with %s, then %s: %v, %v", what, also, show(x), e)
			}
		}
	}
}

func TestOrderOfRules(t *testing.T) {
	for _, c := range []struct {
		ids  []int
		want api.Errno
	}{
		{nil, api.OK}, {[]int{0}, api.OK}, {[]int{65535}, api.OK}, {[]int{0, 1}, api.OK}, {[]int{0, 65535}, api.OK}, {[]int{1, 3, 9}, api.OK}, {[]int{255, 256, 257}, api.OK}, {[]int{65533, 65534, 65535}, api.OK},
		{[]int{1, 1}, api.ErrOrder}, {[]int{0, 0}, api.ErrOrder}, {[]int{65535, 65535}, api.ErrOrder}, {[]int{2, 1}, api.ErrOrder}, {[]int{1, 0}, api.ErrOrder}, {[]int{65535, 0}, api.ErrOrder}, {[]int{1, 2, 2}, api.ErrOrder}, {[]int{1, 1, 2}, api.ErrOrder}, {[]int{1, 3, 2}, api.ErrOrder}, {[]int{2, 1, 3}, api.ErrOrder}, {[]int{256, 255, 257}, api.ErrOrder}, {[]int{1, 2, 3, 4, 3}, api.ErrOrder}, {[]int{1, 2, 1}, api.ErrOrder},
	} {
		rules := book(t, "zero -> a", "f(b) -> b", "f(X) -> X", "g(X,Y) -> Y", "h(X) -> X")[:len(c.ids)]
		for i, id := range c.ids {
			rules[i].ID = id
		}
		if c.want == api.ErrOrder {
			holdRefused(t, "IDs that don't rise", rules, api.ErrOrder)
			continue
		}
		holdRun(t, rules, start(t, "f(s(b))"), 5, nil)
		holdNormal(t, rules, "f(s(b))", 5)
	}
}

func TestRunOfWrongStates(t *testing.T) {
	for what, s := range map[string]api.State{
		"nothing": {}, "a variable": {Vals: []api.Term{{{Name: "X"}}}}, "a value too few": {Ops: []api.Op{{Kind: api.OpMake, Cell: api.Cell{Name: "s", Arity: 1}}}}, "a kind that isn't": {Ops: []api.Op{{Kind: 3, Cell: api.Cell{Name: "a"}}}}, "steps below 0": state(t, model{vals: []string{"a"}, steps: -1}), "heads that fall": state(t, model{vals: []string{"a"}, heads: []string{"b", "a"}}), "two values": state(t, model{vals: []string{"a", "b"}}), "a wrong value that nobody takes": {Ops: []api.Op{{Kind: api.OpMake, Cell: api.Cell{Name: "g", Arity: 2}}}, Vals: []api.Term{{{Name: "a"}}, {}}},
	} {
		for _, texts := range books {
			for _, fuel := range []int{-1, 0, 7} {
				if x, e := rewrite.Run(book(t, texts...), s, fuel, nil); show(x).String() != (model{}).String() || e != api.ErrForm {
					t.Errorf("Run of %s: %v, %v", what, show(x), e)
				}
			}
		}
	}
}

// TestNormalFaults: Start's errors behind those of the rules, and nothing beside them.
func TestNormalFaults(t *testing.T) {
	for _, texts := range books {
		rules := book(t, texts...)
		for _, fuel := range []int{-1, 0, 7} {
			for what, bad := range wrong() {
				if x, n, e := rewrite.Normal(rules, bad.t, fuel); len(x) != 0 || n != 0 || e != bad.e {
					t.Errorf("Normal of %s: %v, %d, %v, want %v", what, x, n, e, bad.e)
				}
			}
			for _, s := range withVariables {
				if x, n, e := rewrite.Normal(rules, read(t, s), fuel); len(x) != 0 || n != 0 || e != api.ErrVar {
					t.Errorf("Normal of %s: %v, %d, %v", s, x, n, e)
				}
			}
		}
	}
}

func TestNormal(t *testing.T) {
	for _, c := range []struct {
		rules []string
		s     string
		fuel  int
		want  string
		steps int
		e     api.Errno
	}{
		{plusRules, "plus(s(zero),zero)", 2, "s(zero)", 2, api.OK}, {plusRules, "plus(s(zero),zero)", 3, "s(zero)", 2, api.OK}, {plusRules, "plus(s(zero),zero)", math.MaxInt, "s(zero)", 2, api.OK}, {plusRules, "plus(s(zero),zero)", 1, "", 0, api.ErrFuel}, {plusRules, "plus(s(zero),zero)", 0, "", 0, api.ErrFuel}, {plusRules, "plus(s(zero),zero)", -1, "", 0, api.ErrFuel}, {plusRules, "plus(s(zero),zero)", math.MinInt, "", 0, api.ErrFuel},
		{plusRules, "s(zero)", 0, "s(zero)", 0, api.OK}, {plusRules, "s(zero)", -1, "s(zero)", 0, api.OK}, {plusRules, "s(zero)", math.MinInt, "s(zero)", 0, api.OK}, {plusRules, "plus(a,zero)", -5, "plus(a,zero)", 0, api.OK}, {plusRules, tower(64, "a"), 0, tower(64, "a"), 0, api.OK}, {nil, "g(a,b)", 0, "g(a,b)", 0, api.OK},
		{plusRules, "plus(plus(zero,zero),s(plus(zero,zero)))", 3, "s(zero)", 3, api.OK}, {plusRules, "plus(plus(zero,zero),s(plus(zero,zero)))", 2, "", 0, api.ErrFuel},
		// Of two rules that fit the first one; of parts the inner ones first, from the left.
		{[]string{"f(X) -> a", "f(b) -> b"}, "f(b)", 9, "a", 1, api.OK}, {[]string{"f(b) -> b", "f(X) -> a"}, "f(b)", 9, "b", 1, api.OK}, {[]string{"f(b) -> b", "f(X) -> a"}, "f(c)", 9, "a", 1, api.OK}, {[]string{"f(c) -> b", "f(b) -> c", "f(a) -> a", "f(X) -> d", "f(a) -> f(a)"}, "f(a)", 1, "a", 1, api.OK},
		{[]string{"f(a) -> c", "a -> b"}, "f(a)", 9, "f(b)", 1, api.OK}, {[]string{"f(X) -> c", "a -> a"}, "f(a)", 9, "", 0, api.ErrFuel}, {[]string{"g(X,Y) -> X", "a -> b", "c -> c"}, "g(a,c)", 100, "", 0, api.ErrFuel},
		// What a variable stands for isn't looked at again, what a right side makes is.
		{[]string{"f(X) -> g(X,X)", "a -> b"}, "f(a)", 9, "g(b,b)", 2, api.OK}, {[]string{"f(X) -> g(a,X)", "a -> b"}, "f(a)", 9, "g(b,b)", 3, api.OK}, {[]string{"f(X) -> s(s(X))", "s(s(a)) -> b"}, "f(a)", 9, "b", 2, api.OK},
		// Too big, though what it comes to is small; and just not too big.
		{[]string{"f(X) -> h(g(X,X))", "h(X) -> a"}, "f(" + tower(32, "a") + ")", 9, "", 0, api.ErrBig}, {[]string{"f(X) -> h(g(X,X))", "h(X) -> a"}, "f(" + tower(31, "a") + ")", 9, "a", 2, api.OK}, {[]string{"f(X) -> s(X)"}, "f(" + tower(63, "a") + ")", 9, tower(64, "a"), 1, api.OK}, {[]string{"f(X) -> s(s(X))"}, "f(" + tower(63, "a") + ")", 9, "", 0, api.ErrBig}, {[]string{"a -> s(b)"}, tower(64, "a"), 9, "", 0, api.ErrBig}, {[]string{"a -> s(b)"}, tower(63, "a"), 9, tower(64, "b"), 1, api.OK}, {[]string{"f(X) -> f(g(X,X))"}, "f(a)", 1000, "", 0, api.ErrBig},
		// Too big ahead of out of fuel.
		{[]string{"f(X) -> g(X,X)", "g(X,Y) -> a"}, "f(" + tower(32, "a") + ")", 1, "", 0, api.ErrBig}, {[]string{"f(X) -> g(X,X)", "g(X,Y) -> a"}, "f(" + tower(31, "a") + ")", 1, "", 0, api.ErrFuel}, {[]string{"f(X) -> g(X,X)", "g(X,Y) -> a"}, "f(" + tower(31, "a") + ")", 2, "a", 2, api.OK},
		// Symbols of one name with another number of arguments.
		{[]string{"f -> a", "f(X) -> b", "f(X,Y) -> c"}, "f(f,f(f))", 9, "c", 4, api.OK},
	} {
		rules := book(t, c.rules...)
		x, n, e := holdNormal(t, rules, c.s, c.fuel)
		if c.e == api.OK && text(x) != c.want || n != c.steps || e != c.e {
			t.Errorf("Normal(%v, %s, %d) = %v, %d, %v, want %s, %d, %v", c.rules, c.s, c.fuel, x, n, e, c.want, c.steps, c.e)
		}
	}
}

func TestEveryBook(t *testing.T) {
	ends := map[api.Errno]int{}
	for _, texts := range books {
		rules := book(t, texts...)
		for _, s := range samples {
			for _, fuel := range []int{-1, 0, 1, 2, 3, 5, 8, 13, 200} {
				_, _, e := holdNormal(t, rules, s, fuel)
				holdRun(t, rules, start(t, s), fuel, nil)
				ends[e]++
			}
		}
	}
	if ends[api.OK] == 0 || ends[api.ErrFuel] == 0 || ends[api.ErrBig] == 0 || len(ends) != 3 {
		t.Errorf("the runs ended so: %v", ends)
	}
}

// TestEveryShortRule holds Run and Normal against the models at every short rule alone, and beside others that end and that don't.
func TestEveryShortRule(t *testing.T) {
	terms := everyTerm(4, "a", "b")
	sides := everyTerm(3, "a", "b", "X", "Y")
	right := 0
	for _, left := range sides {
		for _, r := range sides {
			rules := []api.Rule{{ID: 7, Left: read(t, left), Right: read(t, r)}}
			if rule.Check(rules[0]) != api.OK {
				continue
			}
			right++
			all := [][]api.Rule{rules, append(book(t, "a -> s(b)"), rules...), append(book(t, "s(X) -> g(X,X)"), rules...)}
			for i, s := range terms {
				one := all[(i+right)%3]
				fuel := (i*7+right)%6 - 1
				holdNormal(t, one, s, fuel)
				holdRun(t, one, start(t, s), fuel, nil)
			}
		}
	}
	if right < 100 {
		t.Errorf("only %d rules were right", right)
	}
}

// holdNormalForm: no rule fits any part of what Normal tells, by rule.Apply.
func holdNormalForm(t *testing.T, rules []api.Rule, x api.Term) {
	t.Helper()
	for at := range x {
		part := x[at:term.End(x, at)]
		for _, r := range rules {
			if _, fits, e := rule.Apply(r, part); fits || e != api.OK {
				t.Errorf("the rule %v fits %s in %s: %v", texts([]api.Rule{r}), text(part), text(x), e)
			}
		}
	}
}

// TestNormalForms is the second sentence of P7.4, and the third: more fuel changes no answer but ErrFuel.
func TestNormalForms(t *testing.T) {
	forms := 0
	for _, texts := range books {
		rules := book(t, texts...)
		for _, s := range append(samples, everyTerm(4, "a", "b")...) {
			var last api.Term
			n, ended := 0, api.ErrFuel
			for fuel := -1; fuel <= 30; fuel++ {
				x, steps, e := rewrite.Normal(rules, read(t, s), fuel)
				if ended != api.ErrFuel && (!slices.Equal(x, last) || steps != n || e != ended) {
					t.Errorf("Normal(%v, %s, %d) = %v, %d, %v, with less fuel %v, %d, %v", texts, s, fuel, x, steps, e, last, n, ended)
				}
				if e == api.OK {
					holdNormalForm(t, rules, x)
					forms++
				}
				if e == api.OK && steps > max(fuel, 0) {
					t.Errorf("Normal(%v, %s, %d) takes %d steps", texts, s, fuel, steps)
				}
				last, n, ended = x, steps, e
			}
			more, steps, e := rewrite.Normal(rules, read(t, s), 150)
			if ended != api.ErrFuel && (!slices.Equal(more, last) || steps != n || e != ended) {
				t.Errorf("Normal(%v, %s, 150) = %v, %d, %v, with less fuel %v, %d, %v", texts, s, more, steps, e, last, n, ended)
			}
		}
	}
	if forms == 0 {
		t.Error("nothing had a normal form")
	}
}
