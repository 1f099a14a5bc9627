package tree

import (
	"slices"

	"aumbry/leaf"
)

// take does what Delete promises.
func (d *draft) take(key string) bool {
	if !d.takeBelow(d.root, key) {
		return false
	}
	for p := d.read(d.root); p.kind == leaf.Branch && len(p.list) == 1; p = d.read(d.root) {
		only := below(p.list[0])
		d.pages[d.root] = d.read(only)
		d.giveBack(only)
	}
	d.write()
	return true
}

// takeBelow takes the entry with this key away below a page, and answers whether there was one.
func (d *draft) takeBelow(at int, key string) bool {
	p := d.read(at)
	if p.kind == leaf.Branch {
		i := p.toward(key)
		found := d.takeBelow(below(p.list[i]), key)
		if found {
			d.settle(at, i)
		}
		return found
	}
	list, found := leaf.Take(p.list, key)
	if found {
		d.pages[at] = page{kind: leaf.Leaf, list: list}
	}
	return found
}

// settle puts right a branch whose i-th page may have been changed: it goes, if it is left without entries, or else is joined with those beside it as long as one of them fits.
func (d *draft) settle(at, i int) {
	kid := below(d.read(at).list[i])
	p, changed := d.pages[kid]
	if !changed {
		return
	}
	if len(p.list) == 0 {
		d.remove(at, i)
		d.meet(at, i-1)
		return
	}
	d.rename(at, i)
	for {
		if d.join(at, i-1) {
			i--
		} else if !d.join(at, i) {
			break
		}
	}
}

// remove gives back the i-th page below a branch, which has no entries. Where it was the first one the branch may begin with its name or with the next page's, since no keys lie between them: the shorter one has room wherever the longer one had.
func (d *draft) remove(at, i int) {
	list := d.read(at).list
	d.giveBack(below(list[i]))
	rest, _ := leaf.Take(list, list[i].Key)
	d.pages[at] = page{kind: leaf.Branch, list: rest}
	if i == 0 && len(rest) > 0 && len(list[0].Key) <= len(rest[0].Key) {
		d.name(at, list[0].Key)
	}
}

// name makes key, which is no longer, the first one of a branch and of the first pages below it. What has become smaller by that may fit beside the next one now.
func (d *draft) name(at int, key string) {
	p := d.read(at)
	if p.kind == leaf.Leaf || p.list[0].Key == key {
		return
	}
	d.nameEntry(at, 0, key)
	d.name(below(p.list[0]), key)
	d.settle(at, 0)
}

// rename gives the i-th page below a branch, if it is a branch itself, the name with which it begins: another one, perhaps, than it was, but no longer one.
func (d *draft) rename(at, i int) {
	x := d.read(at).list[i]
	p := d.read(below(x))
	if p.kind == leaf.Branch && p.list[0].Key != x.Key {
		d.nameEntry(at, i, p.list[0].Key)
	}
}

// nameEntry makes key that of a branch's i-th entry.
func (d *draft) nameEntry(at, i int, key string) {
	list := slices.Clone(d.read(at).list)
	list[i].Key = key
	d.pages[at] = page{kind: leaf.Branch, list: list}
}

// meet joins the i-th page below a branch and the next one, if they fit: they haven't lain side by side before.
func (d *draft) meet(at, i int) {
	if d.join(at, i) {
		d.settle(at, i)
	}
}

// join makes one page of the i-th one below a branch and the next one, if there are both, and their entries fit into one. It answers whether it did.
func (d *draft) join(at, i int) bool {
	list := d.read(at).list
	if i < 0 || i+1 >= len(list) {
		return false
	}
	one, two := below(list[i]), below(list[i+1])
	a, b := d.read(one), d.read(two)
	both := slices.Concat(a.list, b.list)
	if !fits(both) {
		return false
	}
	d.pages[one] = page{kind: a.kind, list: both}
	d.giveBack(two)
	rest, _ := leaf.Take(list, list[i+1].Key)
	d.pages[at] = page{kind: leaf.Branch, list: rest}
	if a.kind == leaf.Branch {
		d.meet(one, len(a.list)-1)
	}
	return true
}
