package refs

import (
	"maps"
	"math"
	"slices"

	"aumbry/api"
	"aumbry/need"
	"aumbry/nodes"
	"aumbry/slot"
)

const maxCount = math.MaxUint32

// draft is a change of nodes and of the list, all of which is thought out ahead of the first page that is taken or written. So what can't be read is met while nothing has changed; and what was read for the draft can be read when it is written, also with the power off.
type draft struct {
	refs     *Refs
	file     *nodes.Nodes
	nodes    map[api.Addr]*api.Node // those that are changed, as they are to be; nil: it is taken out
	added    []api.Addr             // those of them that aren't in the file yet, in order
	was, now list                   // as the list lies there, and as it is to be
	asked    bool                   // whether was and now are known
}

func (r *Refs) draft() *draft {
	return &draft{refs: r, file: r.Nodes(), nodes: map[api.Addr]*api.Node{}}
}

// list answers the list as it is to be.
func (d *draft) list() *list {
	if !d.asked {
		d.was = readList(d.refs.space, d.refs.list)
		d.now, d.asked = d.was, true
	}
	return &d.now
}

// node answers the node with an address, to be changed; nil, if there is none.
func (d *draft) node(a api.Addr) *api.Node {
	if x, is := d.nodes[a]; is {
		return x
	}
	x, found, e := d.file.Get(a)
	need.OK(e)
	if !found {
		return nil
	}
	d.nodes[a] = &x
	return &x
}

// has answers whether there is a node with that address. It stays as it is.
func (d *draft) has(a api.Addr) bool {
	if x, is := d.nodes[a]; is {
		return x != nil
	}
	_, found, e := d.file.Get(a)
	need.OK(e)
	return found
}

// some answers what node does, and gives up, if there is none.
func (d *draft) some(a api.Addr) *api.Node {
	x := d.node(a)
	if x == nil {
		need.OK(api.ErrNone)
	}
	return x
}

// add answers the address of the node with that content, which is there from now on.
func (d *draft) add(name string, kids []api.Addr) api.Addr {
	a := d.find(name, kids)
	if a != 0 {
		return a
	}
	a = d.unused(need.Of(slot.Hash(name, kids)))
	d.nodes[a] = &api.Node{At: a, Name: name, Kids: kids}
	d.added = append(d.added, a)
	for _, kid := range kids {
		d.more(kid)
	}
	return a
}

// find answers the address of the node with that content; 0, if there is none.
func (d *draft) find(name string, kids []api.Addr) api.Addr {
	for _, a := range d.added {
		if x := d.nodes[a]; x.Name == name && slices.Equal(x.Kids, kids) {
			return a
		}
	}
	return find(d.file, name, kids)
}

// unused answers the address that the file will give to the next node with that hash. It is asked for ahead of that, since what stands above the node is looked for by it.
func (d *draft) unused(hash uint32) api.Addr {
	second := 1
	for {
		a := need.Of(slot.Address(hash, second))
		if !d.has(a) {
			return a
		}
		second++
	}
}

// more counts one more for a node.
func (d *draft) more(a api.Addr) {
	x := d.some(a)
	if uint64(x.Count) >= maxCount {
		need.OK(api.ErrMany)
	}
	x.Count++
}

// less counts one less for a node; if that is 0, it waits, ahead of all others.
func (d *draft) less(x *api.Node) {
	x.Count = max(0, x.Count-1)
	if x.Count > 0 || x.Queued {
		return
	}
	l := d.list()
	x.Queued, x.Next = true, l.first
	*l = list{first: x.At, count: l.count + 1}
}

// release lets the first waiting node wait no more, takes it out, if its count is 0, and answers whether it did.
func (d *draft) release() bool {
	l := d.list()
	x := d.some(l.first)
	*l = list{first: x.Next, count: l.count - 1}
	x.Queued, x.Next = false, 0
	if x.Count > 0 {
		return false
	}
	d.nodes[x.At] = nil
	for _, a := range x.Kids {
		// What was dropped more often than it was held may be gone by now: that isn't to keep others from being released.
		if kid := d.node(a); kid != nil {
			d.less(kid)
		}
	}
	return true
}

// write brings the change to the file and to the list.
func (d *draft) write() {
	for _, a := range d.added {
		x := d.nodes[a]
		_, _, e := d.file.Add(x.Name, x.Kids)
		need.OK(e)
	}
	for _, a := range slices.Sorted(maps.Keys(d.nodes)) {
		d.writeNode(a)
	}
	if d.now != d.was {
		writeList(d.refs.space, d.refs.list, d.now)
	}
}

func (d *draft) writeNode(a api.Addr) {
	if x := d.nodes[a]; x != nil {
		need.OK(d.file.Set(*x))
		return
	}
	_, e := d.file.Remove(a)
	need.OK(e)
}
