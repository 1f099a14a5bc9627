// Package ahead looks at calls of layer 17 that are to follow one another, ahead of the first of them: it meets what they would meet while nothing has changed. What it has read to that end they can read again, also with the power off.
package ahead

import (
	"aumbry/api"
	"aumbry/need"
	"aumbry/nodes"
	"aumbry/refs"
	"aumbry/term"
)

// Look is the nodes as they would be behind the calls that were looked at. Behind an error it is of no use any more.
type Look struct {
	refs   *refs.Refs
	file   *nodes.Nodes
	counts map[api.Addr]int     // of those nodes that the calls concern
	added  map[content]api.Addr // those of them that aren't in the file yet
}

// At begins a look at calls of r.
func At(r *refs.Refs) *Look {
	return &Look{refs: r, file: r.Nodes(), counts: map[api.Addr]int{}, added: map[content]api.Addr{}}
}

// Keep answers the error of r.Keep, but ErrFull.
func (l *Look) Keep(t api.Term) api.Errno {
	return need.Caught(func() {
		need.OK(term.Check(t))
		l.more(l.lay(t))
	})
}

// Drop answers the error of r.Drop.
func (l *Look) Drop(a api.Addr) api.Errno {
	return need.Caught(func() {
		l.less(a)
		// It releases nothing, but reads the list where a may come to wait.
		_, _, e := l.refs.Reclaim(0)
		need.OK(e)
	})
}
