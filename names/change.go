package names

import (
	"aumbry/ahead"
	"aumbry/api"
	"aumbry/name"
	"aumbry/need"
	"aumbry/space"
	"aumbry/term"
	"aumbry/tree"
)

// A change of several parts has read all that its later parts read ahead of the first one, and looked at what they would meet. So what can't be read or done is met while nothing has changed; and what was read once can be read again, also with the power off.

// create does what New promises.
func create(s *space.Space) (symbols, terms int) {
	symbols = need.Of(tree.New(s))
	terms = need.Of(tree.New(s))
	return symbols, terms
}

// declare does what Declare promises.
func (n *Names) declare(word string, arity int) {
	needSymbol(word)
	if arity < 0 || arity > api.MaxArity {
		need.OK(api.ErrArity)
	}
	declared := entries(n.symbols, readSymbol)
	if _, is := declared[word]; is {
		need.OK(api.ErrTwice)
	}
	if len(declared) >= api.MaxSymbols {
		need.OK(api.ErrMany)
	}
	need.OK(n.symbols.Put(word, writeSymbol(symbol{arity: arity, ahead: len(declared)})))
}

// set does what Set promises. The new term is held ahead of the old one's being let go: so what both have doesn't come to wait.
func (n *Names) set(word string, t api.Term) {
	needSymbol(word)
	n.fits(t)
	if len(need.Of(term.Vars(t))) > 0 {
		need.OK(api.ErrVar)
	}
	named := entries(n.terms, readAddr)
	old, is := named[word]
	if !is && len(named) >= api.MaxNames {
		need.OK(api.ErrMany)
	}
	if is {
		need.OK(ahead.At(n.refs).Drop(old))
	}
	at := need.Of(n.refs.Keep(t))
	need.OK(n.terms.Put(word, writeAddr(at)))
	if is {
		need.OK(n.refs.Drop(old))
	}
}

// forget does what Forget promises.
func (n *Names) forget(word string) bool {
	at, is := entries(n.terms, readAddr)[word]
	if !is {
		return false
	}
	need.OK(ahead.At(n.refs).Drop(at))
	need.Of(n.terms.Delete(word))
	need.OK(n.refs.Drop(at))
	return true
}

// needSymbol gives up, unless word is a symbol's name.
func needSymbol(word string) {
	if name.Kind(word) != name.Symbol {
		need.OK(api.ErrName)
	}
}
