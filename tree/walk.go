package tree

import (
	"iter"

	"aumbry/api"
	"aumbry/leaf"
)

// find goes down to the leaf where a key belongs.
func (t *Tree) find(key string) (string, bool) {
	p := read(t.space, t.root)
	for p.kind == leaf.Branch {
		p = read(t.space, below(p.list[p.toward(key)]))
	}
	i, is := leaf.Find(p.list, key)
	if !is {
		return "", false
	}
	return p.list[i].Value, true
}

func (t *Tree) list(from string, n int) []api.Entry {
	if n < 1 {
		return nil
	}
	var l []api.Entry
	for x := range t.entries(from) {
		l = append(l, x)
		if len(l) == n {
			break
		}
	}
	return l
}

// entries goes through the entries whose keys aren't below from, in order.
func (t *Tree) entries(from string) iter.Seq[api.Entry] {
	return func(yield func(api.Entry) bool) {
		t.entriesBelow(t.root, from, yield)
	}
}

// entriesBelow answers whether more is wanted.
func (t *Tree) entriesBelow(at int, from string, yield func(api.Entry) bool) bool {
	p := read(t.space, at)
	if p.kind == leaf.Leaf {
		first, _ := leaf.Find(p.list, from)
		for _, x := range p.list[first:] {
			if !yield(x) {
				return false
			}
		}
		return true
	}
	for _, x := range p.list[p.toward(from):] {
		if !t.entriesBelow(below(x), from, yield) {
			return false
		}
	}
	return true
}

// pages goes through the numbers of the tree's pages, each ahead of those below it.
func (t *Tree) pages() iter.Seq[int] {
	return func(yield func(int) bool) {
		t.pagesBelow(t.root, yield)
	}
}

// pagesBelow answers whether more is wanted.
func (t *Tree) pagesBelow(at int, yield func(int) bool) bool {
	if !yield(at) {
		return false
	}
	p := read(t.space, at)
	if p.kind == leaf.Leaf {
		return true
	}
	for _, x := range p.list {
		if !t.pagesBelow(below(x), yield) {
			return false
		}
	}
	return true
}
