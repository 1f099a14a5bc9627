package nodes

import (
	"slices"

	"aumbry/api"
	"aumbry/need"
	"aumbry/slot"
	"aumbry/space"
)

// A change has read all that it needs ahead of the first page that it takes or writes. So what can't be read is met while nothing has changed; and where its pages could be read the space takes and writes the others too, also with the power off.

// create does what New promises.
func create(s *space.Space) int {
	dir := need.Of(s.Alloc())
	first := need.Of(s.Alloc())
	writeDirectory(s, dir, directory{pages: []int{first}})
	writeBucket(s, page{number: first})
	return dir
}

func writeBucket(s *space.Space, p page) {
	need.OK(s.Put(p.number, need.Of(slot.Pack(p.Bucket))))
}

// add does what Add promises.
func (n *Nodes) add(name string, kids []api.Addr) (api.Addr, bool) {
	hash := need.Of(slot.Hash(name, kids))
	d := n.directory()
	bucket := slices.Collect(n.bucket(d.pageOf(hash)))
	has := having(name, kids)
	for _, p := range bucket {
		if i := slices.IndexFunc(p.Nodes, has); i >= 0 {
			return p.Nodes[i].At, false
		}
	}
	x := api.Node{At: unused(bucket, hash), Name: name, Kids: kids}
	for !n.lay(bucket, x) {
		// Below the greatest Depth a bucket has one page alone.
		d, bucket[0] = n.cut(d, bucket[0], hash)
	}
	return x.At, true
}

// unused answers the address with the least second number that no node with that hash has.
func unused(bucket []page, hash uint32) api.Addr {
	used := map[api.Addr]struct{}{}
	for _, p := range bucket {
		for _, x := range p.Nodes {
			used[x.At] = struct{}{}
		}
	}
	second := 1
	for {
		a := need.Of(slot.Address(hash, second))
		if _, is := used[a]; !is {
			return a
		}
		second++
	}
}

// lay lays a node into the first page of a bucket that has a free slot, or into one more, and answers whether it did: it doesn't where the bucket is to be cut.
func (n *Nodes) lay(bucket []page, x api.Node) bool {
	hasRoom := func(p page) bool { return len(p.Nodes) < api.MaxSlots }
	if i := slices.IndexFunc(bucket, hasRoom); i >= 0 {
		p := bucket[i]
		p.Nodes = append(p.Nodes, x)
		writeBucket(n.space, p)
		return true
	}
	if bucket[0].Depth < api.MaxDepth {
		return false
	}
	last := bucket[len(bucket)-1]
	last.Next = need.Of(n.space.Alloc())
	writeBucket(n.space, page{last.Next, api.Bucket{Depth: api.MaxDepth, Nodes: []api.Node{x}}})
	writeBucket(n.space, last)
	return true
}

// cut makes two buckets of one, by the bit behind its Depth, and answers the directory then, and the page of that one of both where a hash belongs.
func (n *Nodes) cut(d directory, p page, hash uint32) (directory, page) {
	sides := [2]page{{number: p.number}, {number: need.Of(n.space.Alloc())}}
	for _, x := range p.Nodes {
		of, _, _ := slot.Parts(x.At)
		side := &sides[bit(of, p.Depth)]
		side.Nodes = append(side.Nodes, x)
	}
	for i := range sides {
		sides[i].Depth = p.Depth + 1
		writeBucket(n.space, sides[i])
	}
	if d.depth == p.Depth {
		d = d.doubled()
	}
	d = d.parted(p, sides[1].number)
	writeDirectory(n.space, n.dir, d)
	return d, sides[bit(hash, p.Depth)]
}

// set does what Set promises.
func (n *Nodes) set(x api.Node) {
	w, found := n.at(x.At)
	if !found || !having(x.Name, x.Kids)(w.node()) {
		need.OK(api.ErrNone)
	}
	w.page.Nodes[w.i] = x
	// The rest of x is as it lay there: what no page takes is its Count or its Next, and the error is ErrRange.
	writeBucket(n.space, w.page)
}

// remove does what Remove promises.
func (n *Nodes) remove(a api.Addr) bool {
	w, found := n.at(a)
	if !found {
		return false
	}
	w.page.Nodes = slices.Delete(w.page.Nodes, w.i, w.i+1)
	if len(w.page.Nodes) > 0 || w.ahead.number == 0 {
		writeBucket(n.space, w.page)
		return true
	}
	w.ahead.Next = w.page.Next
	writeBucket(n.space, w.ahead)
	need.OK(n.space.Release(w.page.number))
	return true
}
