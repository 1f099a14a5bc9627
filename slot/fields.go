package slot

import (
	"aumbry/api"
	"aumbry/num"
)

// used is the first byte of a slot in which a node lies.
const used = 1

// slot is a slot's bytes; the one behind its fields is left 0.
type slot [slotSize]byte

// field is a number that stands in a slot behind that of the field ahead: of how many bytes it is, which it is for a node, and what a node has by it.
type field struct {
	width int
	tell  func(x api.Node) uint64
	take  func(x *api.Node, n uint64)
}

// fields answers a slot's fields in order.
func fields() []field {
	l := []field{
		{byteWidth, func(api.Node) uint64 { return used }, nothing},
		{byteWidth, queued, func(x *api.Node, n uint64) { x.Queued = n != 0 }},
		// What is taken is no address yet: the hash is put to it when all of the content is known.
		{secondWidth, second, func(x *api.Node, n uint64) { x.At = api.Addr(n) }},
		// A padded name has no more bytes than a number may have.
		{api.MaxName, func(x api.Node) uint64 { return get(padded(x.Name), 0, api.MaxName) }, func(x *api.Node, n uint64) { x.Name = num.Trim(put(n, api.MaxName)) }},
		{byteWidth, func(x api.Node) uint64 { return uint64(len(x.Kids)) }, nothing},
		{countWidth, func(x api.Node) uint64 { return uint64(x.Count) }, func(x *api.Node, n uint64) { x.Count = int(n) }},
		{addrWidth, func(x api.Node) uint64 { return uint64(x.Next) }, func(x *api.Node, n uint64) { x.Next = api.Addr(n) }},
	}
	for i := range api.MaxArity {
		l = append(l, field{addrWidth, func(x api.Node) uint64 { return kid(x, i) }, addKid})
	}
	return l
}

// nothing takes a number that the other fields tell too. That it is right is seen when the page is written again.
func nothing(*api.Node, uint64) {}

func queued(x api.Node) uint64 {
	if x.Queued {
		return 1
	}
	return 0
}

func second(x api.Node) uint64 {
	_, n, _ := Parts(x.At)
	return uint64(n)
}

// kid answers the i-th kid, and 0, if there is none.
func kid(x api.Node, i int) uint64 {
	if i >= len(x.Kids) {
		return 0
	}
	return uint64(x.Kids[i])
}

func addKid(x *api.Node, n uint64) {
	if n != 0 {
		x.Kids = append(x.Kids, api.Addr(n))
	}
}

// slotOf answers the slot of a node that may be.
func slotOf(x api.Node, l []field) slot {
	var one slot
	at := 0
	for _, f := range l {
		at += copy(one[at:], put(f.tell(x), f.width))
	}
	return one
}

// nodeAt answers what stands in a page's slot; where that has no content, At is no node's.
func nodeAt(page string, at int, l []field) api.Node {
	var x api.Node
	for _, f := range l {
		f.take(&x, get(page, at, f.width))
		at += f.width
	}
	hash, _ := Hash(x.Name, x.Kids)
	x.At, _ = Address(hash, int(x.At))
	return x
}
