package pager

import "slices"

// shelf is pages that are held, at most as many as there is room for.
type shelf struct {
	room  int
	pages map[int]page
	uses  []int // their numbers, the one used longest ago first
}

// page is what is held of one.
type page struct {
	data string
	pins int
}

func (s *shelf) has(at int) bool {
	_, ok := s.pages[at]
	return ok
}

// hasPins answers whether a page has pins; one that isn't held has none.
func (s *shelf) hasPins(at int) bool { return s.pages[at].pins > 0 }

// pin gives a held page more pins, or less.
func (s *shelf) pin(at, more int) {
	p := s.pages[at]
	p.pins += more
	s.pages[at] = p
}

// full answers whether all room is taken by pages with pins.
func (s *shelf) full() bool { return len(s.uses) >= s.room && s.next() < 0 }

// next answers where among the uses the page stands that is the first to go; below 0, if all have pins.
func (s *shelf) next() int {
	return slices.IndexFunc(s.uses, func(at int) bool { return !s.hasPins(at) })
}

// hold takes in a page that isn't held, as the one used last, if it isn't full.
func (s *shelf) hold(at int, data string) {
	if s.full() {
		return
	}
	if len(s.uses) >= s.room {
		s.drop(s.uses[s.next()])
	}
	s.pages[at] = page{data: data}
	s.uses = append(s.uses, at)
}

// use makes a held page the one used last.
func (s *shelf) use(at int) {
	s.cut(at)
	s.uses = append(s.uses, at)
}

// drop lets a page go, if it is held.
func (s *shelf) drop(at int) {
	if s.has(at) {
		s.cut(at)
		delete(s.pages, at)
	}
}

// cut takes a held page's number out of the uses.
func (s *shelf) cut(at int) {
	i := slices.Index(s.uses, at)
	copy(s.uses[i:], s.uses[i+1:])
	s.uses = s.uses[:len(s.uses)-1]
}
