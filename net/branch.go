package net

import (
	"aumbry/api"
	"aumbry/name"
	"aumbry/term"
)

// branch is a place in the tree: the cells from the root to here are those with which some left sides begin.
type branch struct {
	more map[api.Cell]*branch
	ends []int // the places of the rules whose left sides end here
}

// lay puts the rule at place i where its left side ends.
func (b *branch) lay(left api.Term, i int) {
	for _, c := range left {
		b = b.grow(key(c))
	}
	b.ends = append(b.ends, i)
}

// grow answers the branch that goes on by a key, a new one if there is none yet.
func (b *branch) grow(k api.Cell) *branch {
	if b.more == nil {
		b.more = map[api.Cell]*branch{}
	}
	if b.more[k] == nil {
		b.more[k] = &branch{}
	}
	return b.more[k]
}

// key answers the cell by which a left side's cell is found. Variables have one in common, whatever they are called: so left sides of one shape share their branches.
func key(c api.Cell) api.Cell {
	if name.Kind(c.Name) == name.Variable {
		return whole()
	}
	return c
}

// whole is the key that passes over a whole term: no cell of a right one is like it.
func whole() api.Cell { return api.Cell{} }

// lead answers the places of the rules to which t, a right term, leads on from here; its cells ahead of at have led here. As many terms are still to come in t as in the left sides: so these end where t does.
func (b *branch) lead(t api.Term, at int) []int {
	if at == len(t) {
		return b.ends
	}
	var places []int
	if next := b.more[t[at]]; next != nil {
		places = append(places, next.lead(t, at+1)...)
	}
	if next := b.more[whole()]; next != nil {
		places = append(places, next.lead(t, term.End(t, at))...)
	}
	return places
}
