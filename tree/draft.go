package tree

import (
	"maps"
	"slices"

	"aumbry/need"
	"aumbry/space"
)

// draft is a change of a tree, all of which is thought out ahead of the first page that is written: so a page that can't be read is met while nothing has changed.
type draft struct {
	space  *space.Space
	root   int
	pages  map[int]page // those that are changed
	unused []int        // those that are given back
}

func (t *Tree) draft() *draft {
	return &draft{space: t.space, root: t.root, pages: map[int]page{}}
}

// read answers a page as it is to be.
func (d *draft) read(at int) page {
	if p, changed := d.pages[at]; changed {
		return p
	}
	return read(d.space, at)
}

// giveBack tells that a page isn't needed any more.
func (d *draft) giveBack(at int) {
	delete(d.pages, at)
	d.unused = append(d.unused, at)
}

// write brings the change to the space. If the power is off, the first page that is written, or was taken, tells: where that one went well the others do.
func (d *draft) write() {
	for _, at := range slices.Sorted(maps.Keys(d.pages)) {
		write(d.space, at, d.pages[at])
	}
	for _, at := range d.unused {
		need.OK(d.space.Release(at))
	}
}
