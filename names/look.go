package names

import (
	"cmp"
	"maps"
	"slices"

	"aumbry/api"
	"aumbry/name"
	"aumbry/need"
	"aumbry/term"
)

// all does what Symbols promises.
func (n *Names) all() []api.Symbol {
	declared := entries(n.symbols, readSymbol)
	var l []api.Symbol
	for _, word := range slices.Sorted(maps.Keys(declared)) {
		l = append(l, api.Symbol{Name: word, Arity: declared[word].arity})
	}
	return l
}

// order does what Order promises.
func (n *Names) order() []string {
	declared := entries(n.symbols, readSymbol)
	return slices.SortedFunc(maps.Keys(declared), func(a, b string) int {
		return cmp.Compare(declared[a].ahead, declared[b].ahead)
	})
}

// fits does what Fits promises.
func (n *Names) fits(t api.Term) {
	need.OK(term.Check(t))
	declared := entries(n.symbols, readSymbol)
	for _, c := range t {
		if name.Kind(c.Name) == name.Variable {
			continue
		}
		x, is := declared[c.Name]
		if !is {
			need.OK(api.ErrSymbol)
		}
		if x.arity != c.Arity {
			need.OK(api.ErrArity)
		}
	}
}

// get does what Get promises.
func (n *Names) get(word string) (api.Term, bool) {
	at, is := entries(n.terms, readAddr)[word]
	if !is {
		return nil, false
	}
	return need.Of(n.refs.Load(at)), true
}

// names does what Names promises.
func (n *Names) names() []string {
	return slices.Sorted(maps.Keys(entries(n.terms, readAddr)))
}
