package space_test

import (
	"math/rand"
	"slices"
	"strings"
	"testing"

	"aumbry/api"
	"aumbry/disk"
)

// change is some acts that change pages ahead of a Commit: the head page, the map, and three of the user's, of which one was taken before.
func change(r *rand.Rand, at int) []act {
	return []act{
		{what: setHead, s: drawn(r)[:248]},
		{what: put, at: at, s: drawn(r)},
		{what: alloc},
		{what: alloc},
		{what: put, at: 40, s: drawn(r)},
		{what: release, at: 37},
	}
}

// settled is a space with some pages taken, behind a Commit.
func settled(t testing.TB, r *rand.Rand, room int) *pair {
	t.Helper()
	x := begin(t, diskOf(t, drawnBlocks(r, 64)), room)
	for at := 35; at <= 40; at++ {
		x.do(t, act{what: alloc})
		x.do(t, act{what: put, at: at, s: drawn(r)})
	}
	want(t, x.do(t, act{what: commit}), api.OK)
	return x
}

func (x *pair) all(t testing.TB, l []act) {
	t.Helper()
	for _, a := range l {
		want(t, x.do(t, a), api.OK)
	}
}

// A change has 6 pages: 6 copies, a block of the list and the head come ahead of them, and the head as bytes 0 behind.
const (
	changePages  = 6
	headWrite    = changePages + 1
	changeWrites = 2*changePages + 3
)

// TestPowerFails: at every write of a Commit, and then at every write of an Open: behind that all is as it was, or, if the journal's head was written, as it was to be (P12.6).
func TestPowerFails(t *testing.T) {
	r := rand.New(rand.NewSource(12))
	for _, room := range []int{1, 3, 40} {
		for n := range changeWrites + 1 {
			for again := -1; again <= changePages+1; again++ {
				x := settled(t, r, room)
				x.all(t, change(r, 36))
				was, to := x.m.kept.copied(), x.m.now.copied()
				x.do(t, act{what: cut, at: n})
				if e := x.do(t, act{what: commit}); (e == api.OK) != (n >= changeWrites) {
					t.Fatalf("cut %d: %v", n, e)
				}
				if again >= 0 {
					x.anew(t, room, again)
				} else {
					x.anew(t, room)
				}
				x.whole(t)
				if is := told(t, x.s); n <= headWrite && !is.same(was) || n > headWrite && !is.same(to) {
					t.Fatalf("cut %d: %v, ahead it was %v, to be %v", n, is, was, to)
				}
			}
		}
	}
}

// TestPowerFailsOften: within Open again and again, each time at another write (P12.6).
func TestPowerFailsOften(t *testing.T) {
	r := rand.New(rand.NewSource(13))
	x := settled(t, r, 3)
	for range 150 {
		taken := x.m.now.taken()
		for _, a := range change(r, taken[r.Intn(len(taken))]) {
			x.do(t, a)
		}
		x.do(t, act{what: cut, at: r.Intn(changeWrites + 1)})
		x.do(t, act{what: commit})
		var cuts []int
		for range r.Intn(6) {
			cuts = append(cuts, r.Intn(changePages+2))
		}
		x.anew(t, 1+r.Intn(5), cuts...)
		x.whole(t)
		if x.s.Free() < 5 {
			x.do(t, act{what: release, at: x.m.now.taken()[0]})
			x.do(t, act{what: release, at: x.m.now.taken()[0]})
		}
	}
}

// TestFailedCommit: a Commit that fails has changed nothing that the space could tell: all that was changed is told as it was, is written by the next Commit, or is undone (R2, P12.5).
func TestFailedCommit(t *testing.T) {
	r := rand.New(rand.NewSource(14))
	for _, room := range []int{1, 3, 40} {
		for n := range changeWrites {
			for _, undone := range []bool{false, true} {
				x := settled(t, r, room)
				x.all(t, change(r, 36))
				x.do(t, act{what: cut, at: n})
				for range 2 {
					want(t, x.do(t, act{what: commit}), api.ErrDown)
				}
				if undone && n%2 == 0 {
					x.do(t, act{what: undo})
				}
				x.do(t, act{what: restore})
				if undone {
					x.do(t, act{what: undo})
				}
				x.whole(t)
				x.do(t, act{what: put, at: 38, s: drawn(r)})
				x.whole(t)
				if undone {
					x.do(t, act{what: undo})
					x.whole(t)
				}
				want(t, x.do(t, act{what: commit}), api.OK)
				x.whole(t)
				x.do(t, act{what: undo})
				x.whole(t)
				x.anew(t, room)
				x.whole(t)
			}
		}
	}
}

// TestGoesOn: a space that is used on behind a Commit that failed, undone or not, and whose next Commit fails as well, leaves no page half written (P12.6).
func TestGoesOn(t *testing.T) {
	r := rand.New(rand.NewSource(15))
	others := []act{{what: put, at: 35, s: drawn(r)}, {what: put, at: 39, s: drawn(r)}, {what: alloc}}
	same := []act{{what: setHead, s: drawn(r)[:248]}, {what: put, at: 36, s: drawn(r)}}
	for n := range changeWrites {
		// The writes of the second Commit, with those that bring the first one to its end.
		for again := range changeWrites + changePages + 6 {
			for i, more := range [][]act{others, others, same, same, nil, nil} {
				x := settled(t, r, 2)
				x.all(t, change(r, 36))
				x.do(t, act{what: cut, at: n})
				want(t, x.do(t, act{what: commit}), api.ErrDown)
				x.do(t, act{what: restore})
				if i%2 == 1 {
					x.do(t, act{what: undo})
				}
				x.all(t, more)
				x.do(t, act{what: cut, at: again})
				if x.do(t, act{what: commit}) == api.OK && again < changeWrites {
					t.Fatalf("cut %d, %d: not enough was written", n, again)
				}
				x.ends(t, again%3)
			}
		}
	}
}

// ends opens the disk anew, at once, or with the power on again, or behind an Undo and a Commit.
func (x *pair) ends(t testing.TB, how int) {
	t.Helper()
	if how > 0 {
		x.do(t, act{what: restore})
		x.whole(t)
	}
	if how > 1 {
		x.do(t, act{what: undo})
		x.whole(t)
		want(t, x.do(t, act{what: commit}), api.OK)
	}
	x.anew(t, 2)
	x.whole(t)
}

// TestPowerOff: what is neither changed nor held can't be told; the disk's error is, where the call meets it, behind ErrRange and ahead of the others; and nothing has changed (P12.3, R6).
func TestPowerOff(t *testing.T) {
	r := rand.New(rand.NewSource(16))
	// A space that was opened and nothing else holds the head page alone.
	fresh := func() *pair {
		x := settled(t, r, 1)
		x.s = opened(t, x.d, 1)
		off(x.d)
		return x
	}
	for _, c := range []struct {
		act
		want api.Errno
	}{
		{act{what: get, at: 34}, api.ErrRange},
		{act{what: get, at: 64}, api.ErrRange},
		{act{what: get, at: 35}, api.ErrDown},
		{act{what: get, at: 50}, api.ErrDown},
		{act{what: put, at: 0, s: zeros}, api.ErrRange},
		{act{what: put, at: 0, s: "x"}, api.ErrRange},
		{act{what: put, at: 35, s: zeros}, api.ErrDown},
		{act{what: put, at: 35, s: "x"}, api.ErrDown},
		{act{what: put, at: 50, s: "x"}, api.ErrDown},
		{act{what: release, at: 33}, api.ErrRange},
		{act{what: release, at: 35}, api.ErrDown},
		{act{what: release, at: 50}, api.ErrDown},
		{act{what: alloc}, api.ErrDown},
		{act{what: setHead, s: "x"}, api.ErrForm},
		{act{what: setHead, s: zeroHead}, api.OK},
		{act{what: commit}, api.OK},
	} {
		x := fresh()
		want(t, x.do(t, c.act), c.want)
		x.do(t, act{what: restore})
		x.whole(t)
		if c.what == setHead {
			continue
		}
		writes := len(x.d.Log())
		want(t, x.do(t, act{what: commit}), api.OK)
		if len(x.d.Log()) != writes {
			t.Errorf("%v has changed something", c.act)
		}
	}
}

// TestHeldOff: what the space has changed it tells also with the power off (P12.3), but neither Free nor Taken does (P12.4).
func TestHeldOff(t *testing.T) {
	d, _ := disk.New(64)
	s := opened(t, d, 1)
	for range 2 {
		s.Alloc()
	}
	s.Put(36, filled('x'))
	s.SetHead(strings.Repeat("h", 248))
	if s.Free() != 27 || !slices.Equal(s.Taken(), []int{35, 36}) {
		t.Errorf("%d free, taken %v", s.Free(), s.Taken())
	}
	off(d)
	for range 2 {
		if x, e := s.Get(36); x != filled('x') || e != api.OK {
			t.Errorf("Get = %.9q, %v", x, e)
		}
		if h, e := s.Head(); h != strings.Repeat("h", 248) || e != api.OK {
			t.Errorf("Head = %.9q, %v", h, e)
		}
		if s.Free() != 0 || len(s.Taken()) != 0 {
			t.Errorf("%d free, taken %v", s.Free(), s.Taken())
		}
		want(t, s.Commit(), api.ErrDown)
	}
	d.Restore()
	if s.Free() != 27 || !slices.Equal(s.Taken(), []int{35, 36}) {
		t.Errorf("%d free, taken %v", s.Free(), s.Taken())
	}
	want(t, s.Commit(), api.OK)
	// Held are what was written, or nothing of it: Free and Taken don't tell which.
	off(d)
	if s.Free() != 0 || len(s.Taken()) != 0 {
		t.Errorf("%d free, taken %v", s.Free(), s.Taken())
	}
}
