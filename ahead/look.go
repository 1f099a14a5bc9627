package ahead

import (
	"math"

	"aumbry/api"
	"aumbry/need"
	"aumbry/slot"
	"aumbry/term"
)

const maxCount = math.MaxUint32

// content is what each node has of its own; behind the last of its kids stands 0, which is no address.
type content struct {
	name string
	kids [api.MaxArity]api.Addr
}

// lay answers the address that the node of a term would have.
func (l *Look) lay(t api.Term) api.Addr {
	var kids []api.Addr
	for _, kid := range need.Of(term.Kids(t)) {
		kids = append(kids, l.lay(kid))
	}
	return l.add(t[0].Name, kids)
}

// add answers the address that the node with a content has, or would have.
func (l *Look) add(name string, kids []api.Addr) api.Addr {
	c := content{name: name}
	copy(c.kids[:], kids)
	if a, is := l.added[c]; is {
		return a
	}
	a, found, e := l.file.Find(name, kids)
	need.OK(e)
	if found {
		return a
	}
	a = l.unused(need.Of(slot.Hash(name, kids)))
	l.added[c], l.counts[a] = a, 0
	for _, kid := range kids {
		l.more(kid)
	}
	return a
}

// unused answers the address that the next node with that hash would have.
func (l *Look) unused(hash uint32) api.Addr {
	for second := 1; ; second++ {
		a := need.Of(slot.Address(hash, second))
		if _, found := l.count(a); !found {
			return a
		}
	}
}

// count answers how often a node would be referred to, and whether there would be one.
func (l *Look) count(a api.Addr) (int, bool) {
	if n, is := l.counts[a]; is {
		return n, true
	}
	x, found, e := l.file.Get(a)
	need.OK(e)
	return x.Count, found
}

// some answers what count does, and gives up, if there is no such node.
func (l *Look) some(a api.Addr) int {
	n, found := l.count(a)
	if !found {
		need.OK(api.ErrNone)
	}
	return n
}

func (l *Look) more(a api.Addr) {
	n := l.some(a)
	if uint64(n) >= maxCount {
		need.OK(api.ErrMany)
	}
	l.counts[a] = n + 1
}

func (l *Look) less(a api.Addr) {
	n := l.some(a)
	if n == 0 {
		need.OK(api.ErrRange)
	}
	l.counts[a] = n - 1
}
