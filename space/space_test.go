package space_test

import (
	"math"
	"math/rand"
	"slices"
	"strings"
	"testing"

	"aumbry/api"
	"aumbry/disk"
	"aumbry/space"
)

// TestExample: the chapter's own.
func TestExample(t *testing.T) {
	d, _ := disk.New(64)
	s := opened(t, d, 4)
	if s.Free() != 29 {
		t.Errorf("%d free", s.Free())
	}
	for _, c := range []struct{ release, want int }{{0, 35}, {0, 36}, {35, 35}} {
		if c.release > 0 {
			want(t, s.Release(c.release), api.OK)
		}
		if at, e := s.Alloc(); at != c.want || e != api.OK {
			t.Errorf("Alloc = %d, %v, want %d", at, e, c.want)
		}
	}
	if x, e := s.Get(37); x != "" || e != api.ErrNone {
		t.Errorf("Get(37) = %.9q, %v", x, e)
	}
	if x, e := s.Get(34); x != "" || e != api.ErrRange {
		t.Errorf("Get(34) = %.9q, %v", x, e)
	}
	s.Undo()
	if s.Free() != 29 || len(s.Taken()) != 0 {
		t.Errorf("behind Undo: %d free, taken %v", s.Free(), s.Taken())
	}
}

// TestNil: a nil space refuses everything, whatever the arguments, and has nothing (R2).
func TestNil(t *testing.T) {
	var s *space.Space
	for _, at := range []int{math.MinInt, -1, 0, 33, 34, 35, 63, 64, math.MaxInt} {
		for _, data := range []string{"", "x", zeroHead, zeros, zeros + "x"} {
			want(t, s.Put(at, data), api.ErrNil)
			want(t, s.SetHead(data), api.ErrNil)
		}
		if x, e := s.Get(at); x != "" || e != api.ErrNil {
			t.Errorf("Get(%d) = %.9q, %v", at, x, e)
		}
		want(t, s.Release(at), api.ErrNil)
	}
	if x, e := s.Head(); x != "" || e != api.ErrNil {
		t.Errorf("Head = %.9q, %v", x, e)
	}
	if at, e := s.Alloc(); at != 0 || e != api.ErrNil {
		t.Errorf("Alloc = %d, %v", at, e)
	}
	want(t, s.Commit(), api.ErrNil)
	s.Undo()
	if s.Free() != 0 || len(s.Taken()) != 0 {
		t.Error("a nil space has pages")
	}
}

// TestHead: the user's bytes of the head page are what was set last; they are written with what else was changed, and the rest of the page stays (P12.2).
func TestHead(t *testing.T) {
	r := rand.New(rand.NewSource(4))
	for _, n := range sizes {
		d := diskOf(t, drawnBlocks(r, n))
		x := begin(t, d, 1)
		for range 3 {
			x.do(t, act{what: head})
			x.do(t, act{what: setHead, s: drawn(r)[:248]})
			x.do(t, act{what: head})
			x.do(t, act{what: undo})
			x.do(t, act{what: head})
			x.do(t, act{what: setHead, s: drawn(r)[:248]})
			want(t, x.do(t, act{what: commit}), api.OK)
			x.do(t, act{what: head})
		}
		x.anew(t, 2)
	}
}

// TestHeadForm: just 248 bytes are taken (P12.2).
func TestHeadForm(t *testing.T) {
	for _, down := range []bool{false, true} {
		d, _ := disk.New(64)
		x := begin(t, d, 2)
		if down {
			off(d)
		}
		for _, size := range []int{0, 1, 128, 240, 247, 249, 255, 256, 257, 496, 65784} {
			want(t, x.do(t, act{what: setHead, s: strings.Repeat("h", size)}), api.ErrForm)
		}
		x.do(t, act{what: restore})
		want(t, x.do(t, act{what: head}), api.OK)
		want(t, x.do(t, act{what: commit}), api.OK)
		want(t, x.do(t, act{what: setHead, s: strings.Repeat("h", 248)}), api.OK)
		x.whole(t)
	}
}

// TestNumbers: of all numbers the user's pages alone may be had, and of these the taken ones (P12.3).
func TestNumbers(t *testing.T) {
	r := rand.New(rand.NewSource(5))
	for _, n := range sizes {
		d := diskOf(t, drawnBlocks(r, n))
		s := opened(t, d, 2)
		users := placeOf(n).users
		for range 5 {
			s.Alloc()
		}
		want(t, s.Release(users[1]), api.OK)
		numbers := []int{math.MinInt, math.MinInt + 35, -n, 1<<16 + users[0], 1 << 32, 1<<32 + users[0], math.MaxInt - 1, math.MaxInt}
		for at := -1; at <= n+1; at++ {
			numbers = append(numbers, at)
		}
		for _, at := range numbers {
			e := api.ErrRange
			switch {
			case slices.Contains([]int{0, 2, 3, 4}, slices.Index(users, at)):
				e = api.OK
			case slices.Contains(users, at):
				e = api.ErrNone
			}
			data, got := s.Get(at)
			if got != e || (data == zeros) != (e == api.OK) {
				t.Fatalf("%d blocks: Get(%d) = %.9q, %v, want %v", n, at, data, got, e)
			}
			form := e
			if e == api.OK {
				form = api.ErrForm
			}
			if got, short := s.Put(at, zeros), s.Put(at, ""); got != e || short != form {
				t.Fatalf("%d blocks: Put(%d) = %v, %v, want %v, %v", n, at, got, short, e, form)
			}
			if got := s.Release(at); got != e {
				t.Fatalf("%d blocks: Release(%d) = %v, want %v", n, at, got, e)
			}
			// Free now, if it was taken.
			if e == api.OK {
				e = api.ErrNone
			}
			if got := s.Release(at); got != e {
				t.Fatalf("%d blocks: Release(%d) once more = %v, want %v", n, at, got, e)
			}
		}
		if s.Free() != len(users) {
			t.Errorf("%d blocks: %d free of %d", n, s.Free(), len(users))
		}
	}
}

// TestErrors: of several errors the one that is named first is answered, and nothing has changed (P12.3, R2).
func TestErrors(t *testing.T) {
	r := rand.New(rand.NewSource(6))
	d := diskOf(t, drawnBlocks(r, 64))
	x := begin(t, d, 2)
	for range 2 {
		x.do(t, act{what: alloc})
	}
	x.do(t, act{what: put, at: 36, s: drawn(r)})
	want(t, x.do(t, act{what: release, at: 35}), api.OK)
	for _, size := range []int{0, 1, 248, 255, 257, 512, 65792} {
		short := strings.Repeat("x", size)
		for _, at := range []int{math.MinInt, -1, 0, 1, 33, 34, 64, math.MaxInt} {
			want(t, x.do(t, act{what: put, at: at, s: short}), api.ErrRange)
		}
		for _, at := range []int{35, 37, 63} {
			want(t, x.do(t, act{what: put, at: at, s: short}), api.ErrNone)
		}
		want(t, x.do(t, act{what: put, at: 36, s: short}), api.ErrForm)
	}
	x.whole(t)
	want(t, x.do(t, act{what: commit}), api.OK)
}

// TestPages: what was put last is answered, of each page its own; ahead of a Commit and behind it, undone or opened anew, whatever room there is (P12.3, P12.5).
func TestPages(t *testing.T) {
	r := rand.New(rand.NewSource(7))
	for _, room := range []int{1, 2, 3, 1024} {
		x := begin(t, diskOf(t, drawnBlocks(r, 64)), room)
		for range 6 {
			x.do(t, act{what: alloc})
		}
		for range 3 {
			for at := 35; at <= 40; at++ {
				x.do(t, act{what: put, at: at, s: drawn(r)})
				x.do(t, act{what: put, at: at, s: drawn(r)})
				x.do(t, act{what: get, at: at})
			}
			x.whole(t)
			want(t, x.do(t, act{what: commit}), api.OK)
			x.whole(t)
			x.do(t, act{what: put, at: 36, s: drawn(r)})
			x.do(t, act{what: release, at: 37})
			x.whole(t)
			x.do(t, act{what: undo})
			x.whole(t)
		}
		x.anew(t, room)
	}
}

// TestAlloc: the free pages come by rising numbers till none is free, their bytes 0, whatever lay there; then ErrFull, and nothing has changed (P12.3, P12.4).
func TestAlloc(t *testing.T) {
	r := rand.New(rand.NewSource(8))
	for _, n := range sizes {
		d := diskOf(t, drawnBlocks(r, n))
		s := opened(t, d, 3)
		users := placeOf(n).users
		for i, user := range users {
			at, e := s.Alloc()
			if at != user || e != api.OK || s.Free() != len(users)-i-1 {
				t.Fatalf("%d blocks: Alloc = %d, %v, %d free, want %d", n, at, e, s.Free(), user)
			}
			if data, e := s.Get(at); data != zeros || e != api.OK {
				t.Fatalf("%d blocks: page %d is %.9q, %v", n, at, data, e)
			}
		}
		for range 2 {
			if at, e := s.Alloc(); at != 0 || e != api.ErrFull || s.Free() != 0 || !slices.Equal(s.Taken(), users) {
				t.Fatalf("%d blocks: Alloc = %d, %v, %d free", n, at, e, s.Free())
			}
			want(t, s.Commit(), api.OK)
		}
		lies(t, d.Image(), told(t, s))
		some := []int{users[len(users)-1], users[3], users[len(users)/2], users[0]}
		for _, at := range some {
			want(t, s.Release(at), api.OK)
		}
		slices.Sort(some)
		if s.Free() != len(some) {
			t.Fatalf("%d blocks: %d free", n, s.Free())
		}
		for _, want := range some {
			if at, e := s.Alloc(); at != want || e != api.OK {
				t.Fatalf("%d blocks: Alloc = %d, %v, want %d", n, at, e, want)
			}
		}
	}
}

// TestTakenAgain: a page that was given back is as new when it is taken again, in one group or in several (P12.3).
func TestTakenAgain(t *testing.T) {
	r := rand.New(rand.NewSource(9))
	for _, commits := range []int{0, 1, 2, 3} {
		x := begin(t, diskOf(t, drawnBlocks(r, 64)), 1)
		x.do(t, act{what: alloc})
		x.do(t, act{what: put, at: 35, s: drawn(r)})
		if commits&1 > 0 {
			x.do(t, act{what: commit})
		}
		want(t, x.do(t, act{what: release, at: 35}), api.OK)
		if commits&2 > 0 {
			x.do(t, act{what: commit})
		}
		want(t, x.do(t, act{what: get, at: 35}), api.ErrNone)
		want(t, x.do(t, act{what: alloc}), api.OK)
		x.whole(t)
		want(t, x.do(t, act{what: commit}), api.OK)
		x.whole(t)
		x.anew(t, 1)
	}
}

// TestCommit: all that was changed, and that alone, is written as one group; without a change nothing is, also with the power off (P12.5).
func TestCommit(t *testing.T) {
	d, _ := disk.New(64)
	s := opened(t, d, 4)
	h := strings.Repeat("h", 248)
	for _, c := range []struct {
		do   func()
		want []int
	}{
		{func() {}, nil},
		{func() { s.SetHead(h) }, []int{0}},
		{func() { s.Alloc() }, []int{34, 35}},
		{func() { s.Alloc(); s.Alloc() }, []int{34, 36, 37}},
		{func() { s.Put(36, filled('a')) }, []int{36}},
		{func() { s.Put(37, filled('b')); s.SetHead(h); s.Put(35, filled('c')); s.Put(37, filled('d')) }, []int{0, 35, 37}},
		{func() { s.Release(37) }, []int{34}},
		{func() { s.Get(35); s.Get(63); s.Head(); s.Free(); s.Taken() }, nil},
		{func() { s.Put(35, "x"); s.Put(37, zeros); s.SetHead("x"); s.Release(40); s.Release(0) }, nil},
		{func() { s.Put(35, zeros); s.Alloc(); s.SetHead(zeroHead); s.Undo() }, nil},
		{func() { s.Put(35, zeros); s.Undo(); s.Put(36, filled('e')) }, []int{36}},
	} {
		image, writes := d.Image(), len(d.Log())
		c.do()
		if len(d.Log()) != writes {
			t.Fatalf("%v: written ahead of Commit", c.want)
		}
		want(t, s.Commit(), api.OK)
		if got := isGroup(t, image, d.Log()[writes:]); !slices.Equal(got, c.want) {
			t.Errorf("written %v, want %v", got, c.want)
		}
		lies(t, d.Image(), told(t, s))
	}
	off(d)
	want(t, s.Commit(), api.OK)
	want(t, s.Put(36, filled('f')), api.OK)
	want(t, s.Commit(), api.ErrDown)
}

// TestWide: all pages that there are may be changed in one group, on great disks too (P12.5).
func TestWide(t *testing.T) {
	r := rand.New(rand.NewSource(10))
	for _, n := range sizes {
		for _, room := range []int{1, 1024} {
			d, _ := disk.New(n)
			s := opened(t, d, room)
			users := placeOf(n).users
			x := state{drawn(r)[:248], map[int]string{}}
			want(t, s.SetHead(x.head), api.OK)
			for range users {
				at, _ := s.Alloc()
				x.pages[at] = drawn(r)
				want(t, s.Put(at, x.pages[at]), api.OK)
			}
			image, writes := d.Image(), len(d.Log())
			want(t, s.Commit(), api.OK)
			if got := isGroup(t, image, d.Log()[writes:]); len(got) != len(users)+2 {
				t.Errorf("%d blocks: %d pages of %d written", n, len(got), len(users)+2)
			}
			lies(t, d.Image(), x)
			for _, s := range []*space.Space{s, opened(t, d, room)} {
				if s.Free() != 0 || !slices.Equal(s.Taken(), users) || !told(t, s).same(x) {
					t.Fatalf("%d blocks, room %d: %d free", n, room, s.Free())
				}
			}
		}
	}
}

// TestUndo: nothing was changed since the last Commit, Undo or Open (P12.5).
func TestUndo(t *testing.T) {
	r := rand.New(rand.NewSource(11))
	x := begin(t, diskOf(t, drawnBlocks(r, 64)), 2)
	changes := []act{{what: alloc}, {what: setHead, s: drawn(r)[:248]}, {what: alloc}, {what: put, at: 35, s: drawn(r)}, {what: release, at: 36}, {what: alloc}, {what: alloc}, {what: put, at: 37, s: drawn(r)}}
	for range 3 {
		for _, a := range changes {
			x.do(t, a)
		}
		for range 2 {
			x.do(t, act{what: undo})
			x.whole(t)
		}
		writes := len(x.d.Log())
		want(t, x.do(t, act{what: commit}), api.OK)
		if len(x.d.Log()) != writes {
			t.Error("what was undone is written")
		}
		for _, a := range changes {
			x.do(t, a)
		}
		want(t, x.do(t, act{what: commit}), api.OK)
		x.do(t, act{what: undo})
		x.whole(t)
	}
}

// TestTwoSpaces: what one space has changed another one over the same disk doesn't tell, till it is written.
func TestTwoSpaces(t *testing.T) {
	d, _ := disk.New(64)
	s := opened(t, d, 2)
	s.Alloc()
	s.SetHead(strings.Repeat("h", 248))
	if got := told(t, opened(t, d, 2)); !got.same(state{zeroHead, map[int]string{}}) {
		t.Errorf("ahead of Commit: %v", got)
	}
	want(t, s.Commit(), api.OK)
	if got := told(t, opened(t, d, 2)); !got.same(told(t, s)) || len(got.pages) != 1 {
		t.Errorf("behind Commit: %v", got)
	}
}
