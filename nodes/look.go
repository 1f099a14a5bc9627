package nodes

import (
	"cmp"
	"iter"
	"slices"

	"aumbry/api"
	"aumbry/need"
	"aumbry/slot"
)

// page is a page of a bucket; its number is 0 where there is none.
type page struct {
	number int
	api.Bucket
}

// where is where a node lies: its page, the one whose Next tells that, and which of the page's nodes it is.
type where struct {
	ahead, page page
	i           int
}

// node answers the node that lies there; the zero node where none does.
func (w where) node() api.Node {
	if w.page.number == 0 {
		return api.Node{}
	}
	return w.page.Nodes[w.i]
}

func (n *Nodes) directory() directory { return readDirectory(n.space, n.dir) }

// bucket goes through the pages of a bucket, from its first one on.
func (n *Nodes) bucket(first int) iter.Seq[page] {
	return func(yield func(page) bool) {
		for number := first; number != 0; {
			p := page{number, need.Of(slot.Unpack(need.Of(n.space.Get(number))))}
			if !yield(p) {
				return
			}
			number = p.Next
		}
	}
}

// buckets goes through the pages of all buckets.
func (n *Nodes) buckets() iter.Seq[page] {
	return func(yield func(page) bool) {
		// The places at which a bucket stands lie side by side.
		for _, first := range slices.Compact(n.directory().pages) {
			for p := range n.bucket(first) {
				if !yield(p) {
					return
				}
			}
		}
	}
}

// having tells nodes with this content.
func having(name string, kids []api.Addr) func(api.Node) bool {
	return func(x api.Node) bool { return x.Name == name && slices.Equal(x.Kids, kids) }
}

// find answers where in the bucket of a hash the node lies that is told, and whether there is one.
func (n *Nodes) find(hash uint32, is func(api.Node) bool) (where, bool) {
	var ahead page
	for p := range n.bucket(n.directory().pageOf(hash)) {
		if i := slices.IndexFunc(p.Nodes, is); i >= 0 {
			return where{ahead: ahead, page: p, i: i}, true
		}
		ahead = p
	}
	return where{}, false
}

// at answers where the node with an address lies, and whether there is one.
func (n *Nodes) at(a api.Addr) (where, bool) {
	hash, _, ok := slot.Parts(a)
	if !ok {
		return where{}, false
	}
	return n.find(hash, func(x api.Node) bool { return x.At == a })
}

func (n *Nodes) list() []api.Node {
	var l []api.Node
	for p := range n.buckets() {
		l = append(l, p.Nodes...)
	}
	slices.SortFunc(l, func(x, y api.Node) int { return cmp.Compare(x.At, y.At) })
	return l
}

func (n *Nodes) numbers() []int {
	l := []int{n.dir}
	for p := range n.buckets() {
		l = append(l, p.number)
	}
	slices.Sort(l)
	return l
}
