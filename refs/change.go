package refs

import (
	"aumbry/api"
	"aumbry/need"
	"aumbry/nodes"
	"aumbry/space"
	"aumbry/term"
)

// create does what New promises.
func create(s *space.Space) (dir, at int) {
	dir = need.Of(nodes.New(s))
	at = need.Of(s.Alloc())
	writeList(s, at, list{})
	return dir, at
}

// keep does what Keep promises.
func (r *Refs) keep(t api.Term) api.Addr {
	need.OK(term.Check(t))
	d := r.draft()
	a := lay(t, d.add)
	d.more(a)
	d.write()
	return a
}

// hold does what Hold promises.
func (r *Refs) hold(a api.Addr) {
	d := r.draft()
	d.more(a)
	d.write()
}

// drop does what Drop promises.
func (r *Refs) drop(a api.Addr) {
	d := r.draft()
	x := d.some(a)
	if x.Count == 0 {
		need.OK(api.ErrRange)
	}
	d.less(x)
	d.write()
}

// reclaim does what Reclaim promises.
func (r *Refs) reclaim(n int) (out int, done bool) {
	d := r.draft()
	for range n {
		if d.list().count == 0 {
			break
		}
		if d.release() {
			out++
		}
	}
	done = d.list().count == 0
	d.write()
	return out, done
}
