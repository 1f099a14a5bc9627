package net_test

import (
	"math"
	"slices"
	"strings"
	"testing"

	"aumbry/api"
	"aumbry/net"
	"aumbry/rule"
)

// fault is a list of cells that is no right term, with the error that it is to have.
type fault struct {
	t api.Term
	e api.Errno
}

// wrong are faults of every kind.
func wrong() map[string]fault {
	a, x := api.Cell{Name: "a"}, api.Cell{Name: "X"}
	return map[string]fault{
		"no list": {nil, api.ErrForm}, "no cells": {api.Term{}, api.ErrForm}, "a cell too few": {api.Term{{Name: "s", Arity: 1}}, api.ErrForm}, "a cell too many": {api.Term{a, a}, api.ErrForm}, "two variables": {api.Term{x, x}, api.ErrForm}, "a cell too few over a variable": {api.Term{{Name: "g", Arity: 2}, x}, api.ErrForm}, "a cell too many over a variable": {api.Term{{Name: "g", Arity: 2}, x, x, x}, api.ErrForm},
		"no name": {api.Term{{}}, api.ErrName}, "no right name": {api.Term{{Name: "aX"}}, api.ErrName}, "no name deep inside": {api.Term{{Name: "s", Arity: 1}, {}}, api.ErrName}, "no right name beside a variable": {api.Term{{Name: "g", Arity: 2}, x, {Name: "1"}}, api.ErrName},
		"arity -1": {api.Term{{Name: "a", Arity: -1}}, api.ErrArity}, "arity 5": {append(api.Term{{Name: "a", Arity: 5}}, slices.Repeat(api.Term{a}, 5)...), api.ErrArity}, "a variable over one": {api.Term{{Name: "X", Arity: 1}, a}, api.ErrArity}, "a great arity": {api.Term{{Name: "a", Arity: math.MaxInt}}, api.ErrArity}, "a least arity": {api.Term{{Name: "X", Arity: math.MinInt}}, api.ErrArity},
		"65 cells": {append(slices.Repeat(api.Term{{Name: "s", Arity: 1}}, 64), a), api.ErrBig}, "65 cells with a variable": {append(slices.Repeat(api.Term{{Name: "s", Arity: 1}}, 64), x), api.ErrBig}, "65 empty cells": {make(api.Term, 65), api.ErrBig},
	}
}

// wrongRule is a rule that isn't right, with the error that it is to have.
type wrongRule struct {
	r api.Rule
	e api.Errno
}

// wrongRules are rules that aren't right, for each place in rule.Check's sentence at least one.
func wrongRules(t *testing.T) map[string]wrongRule {
	l := map[string]wrongRule{
		"ID -1": {readRule(t, -1, "f(X) -> X"), api.ErrRange}, "ID 65536": {readRule(t, 65536, "f(X) -> X"), api.ErrRange}, "the least ID": {readRule(t, math.MinInt, "f(X) -> X"), api.ErrRange}, "the greatest ID": {readRule(t, math.MaxInt, "f(X) -> X"), api.ErrRange},
		"9 cells on the left": {readRule(t, 9, tower(9, "X")+" -> X"), api.ErrBig}, "9 cells on the right": {readRule(t, 9, "f(X) -> "+tower(9, "X")), api.ErrBig}, "a variable on the left": {readRule(t, 9, "X -> a"), api.ErrRule}, "a variable on both sides": {readRule(t, 9, "X -> X"), api.ErrRule}, "a variable that is nowhere on the left": {readRule(t, 9, "f(X) -> g(X,Y)"), api.ErrVar}, "nothing": {api.Rule{}, api.ErrForm},
	}
	for what, bad := range wrong() {
		l[what+" on the left"] = wrongRule{api.Rule{ID: 9, Left: bad.t, Right: read(t, "a")}, bad.e}
		l[what+" on the right"] = wrongRule{api.Rule{ID: 9, Left: read(t, "f(X)"), Right: bad.t}, bad.e}
	}
	for what, bad := range l {
		if rule.Check(bad.r) != bad.e {
			t.Fatalf("the test's own rule with %s: %v", what, rule.Check(bad.r))
		}
	}
	return l
}

// manyRules are n right ones, of many shapes.
func manyRules(t *testing.T, n int) []api.Rule {
	t.Helper()
	lefts := everyTerm(5, "a", "b", "X", "Y")
	lefts = slices.DeleteFunc(lefts, variable)
	var l []api.Rule
	for i := range n {
		l = append(l, readRule(t, i, lefts[i*7%len(lefts)]))
	}
	return l
}

func holdRefused(t *testing.T, what string, rules []api.Rule, want api.Errno) {
	t.Helper()
	for range 2 {
		if n, e := net.Build(rules); n != nil || e != want {
			t.Errorf("Build with %s: %v, %v, want %v", what, n, e, want)
		}
	}
}

// TestBuildCounts: no rules, 64 and 65.
func TestBuildCounts(t *testing.T) {
	for _, rules := range [][]api.Rule{nil, {}, make([]api.Rule, 0, 70)} {
		m := build(t, rules)
		for _, s := range everyTerm(3, "a", "X") {
			if a := m.hold(t, read(t, s)); a.ok {
				t.Errorf("a rule of none fits %s", s)
			}
		}
	}
	for n := range 65 {
		m := build(t, manyRules(t, n))
		if m.n.Len() != n {
			t.Errorf("Len of %d rules: %d", n, m.n.Len())
		}
		for _, r := range m.rules {
			if a := m.hold(t, r.Left); !slices.Contains(a.all, r.ID) {
				t.Errorf("%v doesn't fit its own left side: %v", r, a)
			}
		}
	}
	for _, n := range []int{65, 66, 128, 1000} {
		holdRefused(t, "too many rules", manyRules(t, n), api.ErrMany)
	}
}

// TestBuildManyFirst: that there are too many is told ahead of all else; of 64 what else is wrong.
func TestBuildManyFirst(t *testing.T) {
	for what, bad := range wrongRules(t) {
		for _, at := range []int{0, 1, 30, 63} {
			rules := manyRules(t, 64)
			rules[at] = bad.r
			holdRefused(t, what+" among 64", rules, bad.e)
			holdRefused(t, what+" among 65", append(rules, readRule(t, 64, "a")), api.ErrMany)
		}
	}
	rules := manyRules(t, 64)
	rules[63].ID = 62
	holdRefused(t, "two IDs alike among 64", rules, api.ErrOrder)
	holdRefused(t, "two IDs alike among 65", append(rules, readRule(t, 64, "a")), api.ErrMany)
	holdRefused(t, "65 empty rules", make([]api.Rule, 65), api.ErrMany)
	holdRefused(t, "64 empty rules", make([]api.Rule, 64), api.ErrForm)
	holdRefused(t, "very many empty rules", make([]api.Rule, 1<<20), api.ErrMany)
}

// TestBuildWrongRules: the error of the first rule that has one, also ahead of that of the order.
func TestBuildWrongRules(t *testing.T) {
	right := book(t, "a -> b", "f(X) -> X", "g(X,Y) -> Y")
	all := wrongRules(t)
	for what, bad := range all {
		holdRefused(t, what, []api.Rule{bad.r}, bad.e)
		for i := range 4 {
			holdRefused(t, what, slices.Insert(slices.Clone(right), i, bad.r), bad.e)
		}
		holdRefused(t, what+" behind IDs that don't rise", []api.Rule{right[1], right[0], bad.r}, bad.e)
		holdRefused(t, what+" behind IDs that are alike", []api.Rule{right[1], right[1], bad.r}, bad.e)
		holdRefused(t, what+" ahead of IDs that don't rise", []api.Rule{bad.r, right[1], right[0]}, bad.e)
		for also, other := range all {
			holdRefused(t, what+", then "+also, []api.Rule{right[0], bad.r, other.r}, bad.e)
		}
	}
}

func TestBuildOrder(t *testing.T) {
	for _, c := range []struct {
		ids  []int
		want api.Errno
	}{
		{[]int{0}, api.OK}, {[]int{65535}, api.OK}, {[]int{0, 1}, api.OK}, {[]int{0, 65535}, api.OK}, {[]int{1, 3, 9}, api.OK}, {[]int{255, 256, 257}, api.OK}, {[]int{65533, 65534, 65535}, api.OK}, {[]int{9, 10, 100, 1000}, api.OK},
		{[]int{1, 1}, api.ErrOrder}, {[]int{0, 0}, api.ErrOrder}, {[]int{65535, 65535}, api.ErrOrder}, {[]int{2, 1}, api.ErrOrder}, {[]int{1, 0}, api.ErrOrder}, {[]int{65535, 0}, api.ErrOrder}, {[]int{1, 2, 2}, api.ErrOrder}, {[]int{1, 1, 2}, api.ErrOrder}, {[]int{1, 3, 2}, api.ErrOrder}, {[]int{2, 1, 3}, api.ErrOrder}, {[]int{256, 255, 257}, api.ErrOrder}, {[]int{1, 2, 3, 4, 3}, api.ErrOrder}, {[]int{1, 2, 1}, api.ErrOrder},
	} {
		// Rules that differ, rules of one shape, and the same rule again: their sides have no say.
		for _, lefts := range []string{"zero f(b) f(X) g(X,Y) h(X)", "g(X,Y) g(Y,X) g(A,B) g(B,A) g(C,D)", "a a a a a"} {
			rules := book(t, strings.Fields(lefts)[:len(c.ids)]...)
			for i, id := range c.ids {
				rules[i].ID = id
			}
			if c.want != api.OK {
				holdRefused(t, "IDs that don't rise", rules, c.want)
				continue
			}
			m := build(t, rules)
			for _, r := range rules {
				m.hold(t, r.Left)
			}
		}
	}
}
