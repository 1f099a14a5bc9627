package book_test

import (
	"fmt"
	"math/rand"
	"slices"
	"strings"
	"testing"

	"aumbry/api"
	"aumbry/rule"
)

// pool is symbols and variables of which the rules of a life are drawn.
type pool struct {
	symbols []api.Symbol
	vars    []string
}

// pools: few symbols, so that most is met again; many; and ones whose names begin one another, with variables that have the plain ones' names.
func pools() map[string]pool {
	few := pool{[]api.Symbol{{Name: "a"}, {Name: "b"}, {Name: "s", Arity: 1}, {Name: "g", Arity: 2}}, []string{"A", "B", "X"}}
	many, nested := pool{vars: []string{"X", "Y", "Z", "W1"}}, pool{vars: []string{"X1", "X0", "X2", "X10", "XX"}}
	for i := range 100 {
		many.symbols = append(many.symbols, api.Symbol{Name: fmt.Sprintf("n%d", i), Arity: max(0, i%9-4)})
	}
	for i := range 8 {
		nested.symbols = append(nested.symbols, api.Symbol{Name: strings.Repeat("f", i+1), Arity: i % 3}, api.Symbol{Name: "f" + strings.Repeat("0", i), Arity: i % 2})
	}
	return map[string]pool{"few": few, "many": many, "nested": nested}
}

// term is a term of at most so many cells, with some of these variables.
func (l pool) term(r *rand.Rand, cells int, vars []string) api.Term {
	if len(vars) > 0 && r.Intn(3) == 0 {
		return api.Term{{Name: vars[r.Intn(len(vars))]}}
	}
	x := l.symbols[r.Intn(len(l.symbols))]
	for x.Arity >= cells && x.Arity > 0 {
		x = l.symbols[r.Intn(len(l.symbols))]
	}
	t := api.Term{{Name: x.Name, Arity: x.Arity}}
	rest := cells - 1
	for i := range x.Arity {
		kid := l.term(r, max(1, rest/(x.Arity-i)), vars)
		t = append(t, kid...)
		rest -= len(kid)
	}
	return t
}

func isVariable(c api.Cell) bool { return variableForm.MatchString(c.Name) }

// rule is a right rule.
func (l pool) rule(r *rand.Rand) api.Rule {
	left := l.term(r, 1+r.Intn(8), l.vars)
	for isVariable(left[0]) {
		left = l.term(r, 1+r.Intn(8), l.vars)
	}
	var vars []string
	for _, c := range left {
		if isVariable(c) {
			vars = append(vars, c.Name)
		}
	}
	return api.Rule{ID: r.Intn(65536), Left: left, Right: l.term(r, 1+r.Intn(8), vars)}
}

// any is mostly a right rule, and now and then none.
func (l pool) any(r *rand.Rand) api.Rule {
	x := l.rule(r)
	side := &x.Left
	if r.Intn(2) == 0 {
		side = &x.Right
	}
	switch r.Intn(40) {
	case 0:
		x.ID = []int{-1, 65536, -1 << 62, 1 << 40}[r.Intn(4)]
	case 1:
		(*side)[r.Intn(len(*side))].Name = []string{"", "Xa", "a b", "abcdefghi", "2"}[r.Intn(5)]
	case 2:
		(*side)[r.Intn(len(*side))].Arity = r.Intn(8) - 2
	case 3:
		*side = (*side)[:r.Intn(len(*side))]
	case 4:
		*side = slices.Concat(*side, *side)
	case 5:
		*side = l.term(r, 30, nil)
	case 6:
		x.Left = api.Term{{Name: "X"}}
	case 7:
		x.Right = api.Term{{Name: "NEW"}}
	}
	return x
}

// tower is a name over itself, so many cells high.
func tower(cells int, name, leaf string) string {
	return strings.Repeat(name+"(", cells-1) + leaf + strings.Repeat(")", cells-1)
}

// TestDrawn: what is drawn is what the other tests need.
func TestDrawn(t *testing.T) {
	r := rand.New(rand.NewSource(1))
	for name, l := range pools() {
		met := map[api.Errno]int{}
		again, vars, one := 0, 0, 0
		for range 2000 {
			met[rule.Check(l.any(r))]++
			x := l.rule(r)
			if e := rule.Check(x); e != api.OK {
				t.Fatalf("%s: %s is no rule: %v", name, told(x), e)
			}
			y := plain(x)
			again += boolean(!slices.Equal(x.Left, y.Left))
			vars += boolean(slices.ContainsFunc(x.Right, isVariable))
			one += boolean(slices.Equal(x.Left, x.Right))
			if z, e := rule.Plain(x); e != api.OK || !slices.Equal(z.Left, y.Left) || !slices.Equal(z.Right, y.Right) {
				t.Fatalf("%s: the plain form of %s is %s", name, told(x), told(z))
			}
		}
		if met[api.OK] < 1500 || met[api.OK] > 1980 || again < 300 || vars < 100 || name == "few" && one < 20 {
			t.Errorf("%s: of 2000 %d are right, %d aren't plain, %d have variables, %d have like sides", name, met[api.OK], again, vars, one)
		}
		for _, e := range []api.Errno{api.ErrRange, api.ErrName, api.ErrArity, api.ErrForm, api.ErrBig, api.ErrRule, api.ErrVar} {
			if met[e] == 0 {
				t.Errorf("%s: %v isn't met", name, e)
			}
		}
	}
}

func boolean(is bool) int {
	if is {
		return 1
	}
	return 0
}
