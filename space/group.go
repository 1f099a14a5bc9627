package space

import (
	"errors"
	"slices"
	"strings"

	"aumbry/api"
	"aumbry/journal"
)

// begin lays a space out, unless one for as many blocks lies on the disk.
func (s *Space) begin() error {
	head, err := s.load(headAt)
	if err != nil {
		return err
	}
	n := s.disk.Len()
	if strings.HasPrefix(head, markOf(n)) {
		return nil
	}
	if err := s.store(headAt, padded(markOf(n))); err != nil {
		return err
	}
	if err := s.store(mapAt(n), string(firstMap())); err != nil {
		return err
	}
	return s.write()
}

// write writes all changed pages as one group.
func (s *Space) write() error {
	changed := s.pages.Dirty()
	if len(changed) == 0 {
		return nil
	}
	was, err := s.before(changed)
	if err != nil {
		return err
	}
	if err := s.settle(); err != nil {
		return err
	}
	err = faultAt(changed[0], s.pages.Commit())
	switch {
	case err == nil:
		s.was = nil
	case errors.Is(err, api.ErrDown):
		s.was = was
	}
	return err
}

// before answers what the changed pages were behind the last Commit that didn't fail.
func (s *Space) before(changed []int) ([]api.Page, error) {
	var was []api.Page
	for _, at := range changed {
		// Of a page that a Commit was to write the disk tells no more what it was.
		i := slices.IndexFunc(s.was, func(p api.Page) bool { return p.At == at })
		if i >= 0 {
			was = append(was, s.was[i])
			continue
		}
		data, e := s.disk.Read(at)
		if e != api.OK {
			return nil, faultAt(at, e)
		}
		was = append(was, api.Page{At: at, Data: data})
	}
	return was, nil
}

// settle brings the group of a Commit that failed to its end, if it waits in the journal. The next group is written over its copies: if the power failed there once more, its pages would stay half written.
func (s *Space) settle() error {
	if len(s.was) == 0 {
		return nil
	}
	_, e := journal.Recover(s.disk)
	return faultAt(s.was[0].At, e)
}
