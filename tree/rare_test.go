package tree_test

import (
	"strings"
	"testing"

	"aumbry/api"
	"aumbry/leaf"
)

// What few lives come to is laid out here page by page, as Puts and Deletes could have left it.

// part is a page with all below it: a branch's kids, or a leaf's entries.
type part struct {
	name string
	kids []part
	list []api.Entry
}

// long is a name of 32 bytes; the keys of the leaf of that word are above it.
func long(word string) string { return word + strings.Repeat("0", 32-len(word)) }

// page is a leaf whose entries take so many bytes.
func page(name, word string, size int) part {
	n := (size + 69) / 70
	p := part{name: name}
	for i := range n {
		own := size/n + (i+size%n)/n
		key := word + string([]byte{byte('a' + i)})
		p.list = append(p.list, api.Entry{Key: key, Value: strings.Repeat("v", own-2-len(key))})
	}
	return p
}

// pages are leaves of long names, whose entries take so many bytes each.
func pages(size int, words ...string) []part {
	var l []part
	for _, w := range words {
		l = append(l, page(long(w), w, size))
	}
	return l
}

// lay lays a part out in a page.
func (p *pair) lay(t *testing.T, at int, x part) {
	t.Helper()
	kind, list := leaf.Leaf, x.list
	for _, y := range list {
		p.m[y.Key] = y.Value
	}
	for _, k := range x.kids {
		kind = leaf.Branch
		below, e := p.s.Alloc()
		want(t, e, api.OK)
		p.lay(t, below, k)
		list = append(list, api.Entry{Key: k.name, Value: string([]byte{byte(below / 256), byte(below % 256)})})
	}
	data, e := leaf.Pack(kind, list)
	want(t, e, api.OK)
	want(t, p.s.Put(at, data), api.OK)
}

// laid is a tree with these parts below its root.
func laid(t *testing.T, kids ...part) *pair {
	t.Helper()
	p := begin(t, 400, 5)
	p.lay(t, p.root, part{kids: kids})
	p.was = look(t, p.s, p.root)
	return p
}

// TestNoRoomForTheName: a branch that becomes the first one, and has no room for the longer name of the one that was, keeps its own.
func TestNoRoomForTheName(t *testing.T) {
	full := part{name: "m", kids: append([]part{page("m", "m0", 30)}, pages(200, "n1", "n2", "n3", "n4", "n5", "n6")...)}
	full.kids = append(full.kids, page(long("n7")[:20], "n7", 200))
	p := laid(t,
		part{name: "", kids: []part{{name: "", kids: append([]part{page("", "a0", 200)}, pages(200, "a1", "a2", "a3", "a4", "a5")...)}}},
		part{name: long("k1"), kids: []part{
			{name: long("k1"), kids: []part{page(long("k1"), "k1", 40)}},
			full,
			{name: "o", kids: append([]part{page("o", "o0", 200)}, pages(200, "o1", "o2", "o3", "o4", "o5")...)},
		}},
	)
	p.take(t, "k1a")
	p.hold(t)
	for _, key := range []string{"k", "k1a", "l", "lz", "m", "m0"} {
		p.put(t, key, strings.Repeat("w", 64))
		p.hold(t)
		p.ask(t, key, 3)
	}
}

// TestShorterNames: where a branch gets a shorter name those below it that get it, too, are joined with those beside them, if they fit now.
func TestShorterNames(t *testing.T) {
	name := func(word string) string { return long(word)[:31] }
	short := func(words ...string) []part {
		var l []part
		for _, w := range words {
			l = append(l, page(name(w), w, 200))
		}
		return l
	}
	p := laid(t,
		part{name: "", kids: []part{{name: "", kids: []part{page("", "a0", 30)}}}},
		part{name: long("k0"), kids: []part{
			{name: long("k0"), kids: append(pages(200, "k0"), short("k1", "k2", "k3")...)},
			{name: name("l0"), kids: short("l0", "l1", "l2", "l3")},
		}},
	)
	depth := p.was.depth
	p.take(t, "a0a")
	p.hold(t)
	if len(p.was.data) != 9 || p.was.depth != depth-2 {
		t.Errorf("%d pages %d deep are left", len(p.was.data), p.was.depth)
	}
}

// TestOnlyChildren: a root's only child that has an only child itself.
func TestOnlyChildren(t *testing.T) {
	p := laid(t,
		part{name: "", kids: []part{{name: "", kids: []part{page("", "a0", 30)}}}},
		part{name: "k", kids: []part{{name: "k", kids: []part{page("k", "k0", 30)}}}},
	)
	p.take(t, "k0a")
	p.hold(t)
	if len(p.was.data) != 1 {
		t.Errorf("%d pages are left", len(p.was.data))
	}
}

// shrinking are a branch's leaves: two that fit into one when the key p0A is deleted, and two small ones that fit already, which no Delete has changed.
func shrinking(small ...string) (two, both []part) {
	one, other := page(long("p0"), "p0", 220), page(long("p1"), "p1", 30)
	one.list = append([]api.Entry{{Key: "p0A", Value: "value"}}, one.list...)
	return []part{one, other}, pages(40, small...)
}

// TestLeftBehindRight: what is joined with the one behind it may have become so small by that that it fits beside the one ahead.
func TestLeftBehindRight(t *testing.T) {
	two, small := shrinking("q0", "q1")
	p := laid(t,
		part{name: "", kids: append([]part{page("", "a0", 200)}, pages(200, "a1", "a2", "a3", "a4")...)},
		part{name: long("p0"), kids: append(two, small...)},
		part{name: long("r0"), kids: pages(40, "r0")},
	)
	p.take(t, "p0A")
	p.hold(t)
	if len(p.was.data) != 8 || p.was.depth != 2 {
		t.Errorf("%d pages %d deep are left", len(p.was.data), p.was.depth)
	}
}

// TestRightBehindLeft: the same with the one ahead and the one behind.
func TestRightBehindLeft(t *testing.T) {
	two, small := shrinking("o0", "o1")
	p := laid(t,
		part{name: "", kids: []part{page("", "a0", 40)}},
		part{name: long("o0"), kids: append(small, two...)},
		part{name: long("r0"), kids: pages(200, "r0", "r1", "r2", "r3", "r4")},
	)
	p.take(t, "p0A")
	p.hold(t)
	if len(p.was.data) != 8 || p.was.depth != 2 {
		t.Errorf("%d pages %d deep are left", len(p.was.data), p.was.depth)
	}
}
