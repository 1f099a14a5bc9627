package refs

import (
	"slices"

	"aumbry/api"
	"aumbry/need"
	"aumbry/nodes"
	"aumbry/term"
)

// lay goes through the parts of a term that is right, arguments ahead of what stands above them, the left ones first. Of each part it asks for the node over its arguments' nodes, and it answers that of the whole.
func lay(t api.Term, node func(name string, kids []api.Addr) api.Addr) api.Addr {
	at := 0
	var next func() api.Addr
	next = func() api.Addr {
		c := t[at]
		at++
		var kids []api.Addr
		for range c.Arity {
			kids = append(kids, next())
		}
		return node(c.Name, kids)
	}
	return next()
}

// load does what Load promises.
func (r *Refs) load(a api.Addr) api.Term {
	file := r.Nodes()
	var t api.Term
	var next func(api.Addr)
	next = func(a api.Addr) {
		if len(t) == api.MaxCells {
			need.OK(api.ErrBig)
		}
		x := nodeAt(file, a)
		t = append(t, api.Cell{Name: x.Name, Arity: len(x.Kids)})
		for _, kid := range x.Kids {
			next(kid)
		}
	}
	next(a)
	return t
}

// has answers the address of a term's node; 0, if there is none.
func (r *Refs) has(t api.Term) api.Addr {
	need.OK(term.Check(t))
	file := r.Nodes()
	return lay(t, func(name string, kids []api.Addr) api.Addr {
		if slices.Contains(kids, 0) {
			return 0
		}
		return find(file, name, kids)
	})
}

// waiting does what Waiting promises.
func (r *Refs) waiting() []api.Addr {
	file := r.Nodes()
	rest := readList(r.space, r.list)
	var l []api.Addr
	for range rest.count {
		l = append(l, rest.first)
		rest.first = nodeAt(file, rest.first).Next
	}
	return l
}

// find answers the address of the node with that content; 0, if there is none.
func find(file *nodes.Nodes, name string, kids []api.Addr) api.Addr {
	a, _, e := file.Find(name, kids)
	need.OK(e)
	return a
}

// nodeAt answers the node with an address, and gives up, if there is none.
func nodeAt(file *nodes.Nodes, a api.Addr) api.Node {
	x, found, e := file.Get(a)
	need.OK(e)
	if !found {
		need.OK(api.ErrNone)
	}
	return x
}
