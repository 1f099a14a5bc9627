package names_test

import (
	"fmt"
	"math/rand"
	"slices"
	"strings"
	"testing"

	"aumbry/api"
	"aumbry/term"
)

// pool is symbols of which a life draws, each with the arity that it mostly has.
type pool []api.Symbol

// pools: few symbols, so that most is met again; many, which may fill the symbols' tree; and ones whose names begin one another.
func pools() map[string]pool {
	few := pool{{Name: "a"}, {Name: "b"}, {Name: "s", Arity: 1}, {Name: "g", Arity: 2}}
	var many, nested pool
	for i := range 200 {
		many = append(many, api.Symbol{Name: fmt.Sprintf("n%d", i), Arity: max(0, i%9-4)})
	}
	for i := range 8 {
		nested = append(nested, api.Symbol{Name: strings.Repeat("f", i+1), Arity: i % 3}, api.Symbol{Name: "f" + strings.Repeat("0", i), Arity: i % 2})
	}
	return map[string]pool{"few": few, "many": many, "nested": nested}
}

func (l pool) some(r *rand.Rand) api.Symbol { return l[r.Intn(len(l))] }

// name is a name that a term may have, mostly.
func (l pool) name(r *rand.Rand) string {
	if r.Intn(25) == 0 {
		return []string{"", "X", "Xa", "aB", "2a", "a b", "abcdefghi", "a\x00", "\x00", "é"}[r.Intn(10)]
	}
	return fmt.Sprintf("%c%d", 'p'+rune(r.Intn(3)), r.Intn(30))
}

// term is a term of symbols of the pool, of at most so many cells; now and then with a variable, or with a symbol that has another arity than it mostly has.
func (l pool) term(r *rand.Rand, cells int) api.Term {
	if r.Intn(30) == 0 {
		return api.Term{{Name: "X1"}}
	}
	x := l.some(r)
	for range 9 {
		if x.Arity < cells {
			break
		}
		x = l.some(r)
	}
	if r.Intn(60) == 0 {
		x.Arity = r.Intn(5)
	}
	t := api.Term{{Name: x.Name, Arity: x.Arity}}
	rest := cells - 1
	for i := range x.Arity {
		own := max(1, rest/(x.Arity-i))
		kid := l.term(r, own)
		t = append(t, kid...)
		rest -= len(kid)
	}
	return t
}

// any is mostly a term, and now and then none.
func (l pool) any(r *rand.Rand, cells int) api.Term {
	t := l.term(r, cells)
	if r.Intn(20) == 0 {
		t[r.Intn(len(t))].Name = []string{"", "Xa", "a b", "abcdefghi", "2"}[r.Intn(5)]
	}
	if r.Intn(20) == 0 {
		t[r.Intn(len(t))].Arity = r.Intn(8) - 2
	}
	if r.Intn(20) == 0 {
		t = t[:r.Intn(len(t)+1)]
	}
	if r.Intn(30) == 0 {
		t = slices.Concat(t, t)
	}
	return t
}

// ground is a term of symbols that are declared, without variables; the term of one of those that have no arguments, if there is nothing else.
func (l pool) ground(r *rand.Rand, cells int) api.Term {
	for range 100 {
		t := l.term(r, cells)
		if !slices.ContainsFunc(t, func(c api.Cell) bool { return c.Name == "X1" || !slices.Contains(l, api.Symbol(c)) }) && term.Check(t) == api.OK {
			return t
		}
	}
	i := slices.IndexFunc(l, func(x api.Symbol) bool { return x.Arity == 0 })
	return api.Term{{Name: l[i].Name}}
}

// tower is a name over itself, so many cells high.
func tower(cells int, name, leaf string) string {
	return strings.Repeat(name+"(", cells-1) + leaf + strings.Repeat(")", cells-1)
}

// TestDrawn: what is drawn is what the other tests need.
func TestDrawn(t *testing.T) {
	r := rand.New(rand.NewSource(1))
	for name, l := range pools() {
		right, vars := 0, 0
		for range 1000 {
			x := l.any(r, 1+r.Intn(20))
			if v, e := term.Vars(x); e == api.OK {
				right++
				vars += min(1, len(v))
			}
			if x := l.ground(r, 1+r.Intn(20)); term.Check(x) != api.OK {
				t.Fatalf("%s: %v is no term", name, x)
			}
		}
		if right < 600 || right > 980 || vars < 20 || vars > 900 {
			t.Errorf("%s: of 1000 drawn ones %d are terms, %d have variables", name, right, vars)
		}
	}
	if len(read(t, tower(64, "s", "a"))) != 64 {
		t.Error("not as many cells as are told")
	}
}
