package tree

import (
	"aumbry/api"
	"aumbry/leaf"
	"aumbry/need"
)

// put does what Put promises.
func (d *draft) put(x api.Entry) {
	if beside, cut := d.putBelow(d.root, x); cut {
		first := d.add("", d.pages[d.root])
		d.pages[d.root] = page{kind: leaf.Branch, list: []api.Entry{first, beside}}
	}
	d.write()
}

// putBelow puts an entry where it belongs below a page. If that page was cut, the entry that names the new one beside it is answered, and true.
func (d *draft) putBelow(at int, x api.Entry) (api.Entry, bool) {
	p := d.read(at)
	if p.kind == leaf.Branch {
		beside, cut := d.putBelow(below(p.list[p.toward(x.Key)]), x)
		if !cut {
			return api.Entry{}, false
		}
		x = beside
	}
	return d.lay(at, page{kind: p.kind, list: leaf.Put(p.list, x.Key, x.Value)})
}

// lay makes p the page, or, where p doesn't fit, the first side of it, and adds the other side as a page beside it.
func (d *draft) lay(at int, p page) (api.Entry, bool) {
	if fits(p.list) {
		d.pages[at] = p
		return api.Entry{}, false
	}
	one, two := leaf.Cut(p.list)
	d.pages[at] = page{kind: p.kind, list: one}
	return d.add(two[0].Key, page{kind: p.kind, list: two}), true
}

// add takes a page for p, and answers the entry that names it. All that a Put reads has been read by then.
func (d *draft) add(key string, p page) api.Entry {
	at := need.Of(d.space.Alloc())
	d.pages[at] = p
	return naming(key, at)
}
