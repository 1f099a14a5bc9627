package space

import (
	"errors"
	"strings"
	"testing"

	"aumbry/api"
	"aumbry/disk"
)

// TestFault: what the disk refuses is handed on with its page, and is taken out of it as it was (the chapter's ways).
func TestFault(t *testing.T) {
	for e := api.ErrRange; e <= api.ErrRule; e++ {
		for _, err := range []error{faultAt(35, e), fault{page: 1, met: faultAt(35, e)}} {
			if number(err) != e || !errors.Is(err, e) || errors.Is(err, api.OK) {
				t.Errorf("%v: the number is %v", err, number(err))
			}
			var f fault
			if !errors.As(err, &f) || !strings.Contains(err.Error(), "page 35") || !strings.Contains(err.Error(), e.Error()) {
				t.Errorf("%v tells neither page nor error", err)
			}
		}
		if number(e) != e {
			t.Errorf("%v that nothing wraps is %v", e, number(e))
		}
	}
	if faultAt(35, api.OK) != nil || number(nil) != api.OK {
		t.Error("OK is no error")
	}
}

// TestFaultPage: of a page that can't be read its own number is told.
func TestFaultPage(t *testing.T) {
	d, _ := disk.New(64)
	s, e := Open(d, 1)
	if e != api.OK {
		t.Fatal(e)
	}
	if _, e := s.Alloc(); e != api.OK || s.Commit() != api.OK || s.SetHead(strings.Repeat("h", HeadSize)) != api.OK {
		t.Fatal("refused")
	}
	d.Cut(0)
	for _, c := range []struct {
		err  error
		page int
	}{
		{s.write(), 0},
		{func() error { _, err := s.load(40); return err }(), 40},
		{func() error { _, err := s.before([]int{0, 41}); return err }(), 41},
		{s.settle(), 0},
	} {
		var f fault
		if !errors.As(c.err, &f) || f.page != c.page || !errors.Is(c.err, api.ErrDown) {
			t.Errorf("%v, want page %d", c.err, c.page)
		}
	}
}

// TestKept: what the pages were is kept as long as a Commit that failed isn't made good, and no longer.
func TestKept(t *testing.T) {
	d, _ := disk.New(64)
	s, _ := Open(d, 2)
	if len(s.was) != 0 {
		t.Error("behind Open something is kept")
	}
	s.Alloc()
	d.Cut(0)
	for range 2 {
		if s.Commit() != api.ErrDown || len(s.was) != 2 {
			t.Errorf("%d pages are kept", len(s.was))
		}
		s.Undo()
	}
	d.Restore()
	if s.Commit() != api.OK || len(s.was) != 0 {
		t.Errorf("%d pages are kept", len(s.was))
	}
}
