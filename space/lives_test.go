package space_test

import (
	"math/rand"
	"slices"
	"testing"

	"aumbry/api"
	"aumbry/disk"
)

// TestShortLives: everything that a space can go through in a few calls, of two pages, held against the model.
func TestShortLives(t *testing.T) {
	d, _ := disk.New(64)
	opened(t, d, 1)
	blocks := d.Image()
	acts := []act{{what: alloc}, {what: commit}, {what: undo}, {what: setHead, s: filled('h')[:248]}, {what: cut, at: 0}, {what: cut, at: 6}, {what: restore}}
	for _, at := range []int{35, 36} {
		acts = append(acts, act{what: release, at: at}, act{what: put, at: at, s: filled(byte(at))})
	}
	for _, room := range []int{1, 3} {
		life := make([]int, 4)
		for {
			x := begin(t, diskOf(t, blocks), room)
			x.do(t, act{what: alloc})
			for _, i := range life {
				x.do(t, acts[i])
			}
			x.do(t, act{what: restore})
			x.whole(t)
			x.anew(t, room)
			if !next(life, len(acts)) {
				break
			}
		}
	}
}

// next counts a life on, as a number whose digits are below base; false behind the last one.
func next(life []int, base int) bool {
	for i := range life {
		life[i]++
		if life[i] < base {
			return true
		}
		life[i] = 0
	}
	return false
}

// drawnAct is any act, now and then of another number or another length.
func drawnAct(r *rand.Rand, n int) act {
	// The more often a kind stands here, the more often it is drawn.
	what := []int{head, setHead, get, get, get, put, put, put, alloc, alloc, alloc, release, release, commit, commit, undo, cut, restore, restore, fail}[r.Intn(20)]
	p := placeOf(n)
	a := act{what: what, at: p.users[r.Intn(8)]}
	switch what {
	case cut:
		a.at = r.Intn(35) - 4
	case setHead:
		a.s = drawn(r)[:248]
	case put:
		a.s = drawn(r)
	}
	if r.Intn(15) == 0 && a.s != "" {
		a.s = a.s[:r.Intn(len(a.s))]
	}
	if what != cut && r.Intn(15) == 0 {
		a.at = []int{-1, 0, 1, p.first - 1, p.first, p.users[len(p.users)-1], p.users[len(p.users)-1] + 1, n, int(r.Uint64())}[r.Intn(9)]
	}
	return a
}

// TestLongLives: drawn ones, with power that fails, spaces that are used on and spaces that are opened anew (P12.1 to P12.6, R1).
func TestLongLives(t *testing.T) {
	r := rand.New(rand.NewSource(17))
	met := map[[2]int]int{}
	for range 200 {
		n := []int{64, 65, 66, 100}[r.Intn(4)]
		x := begin(t, diskOf(t, drawnBlocks(r, n)), 1+r.Intn(5))
		x.quiet = r.Intn(2) == 0
		// In some lives the disk is nearly full.
		if r.Intn(3) == 0 {
			for len(x.m.free()) > 3 {
				x.do(t, act{what: alloc})
			}
		}
		for range 200 {
			a := drawnAct(r, n)
			e := x.do(t, a)
			met[[2]int{a.what, int(e)}]++
			if e == api.ErrDown && r.Intn(3) == 0 {
				x.anew(t, 1+r.Intn(5), []int{r.Intn(9), r.Intn(9)}[:r.Intn(3)]...)
			}
		}
		x.do(t, act{what: restore})
		x.whole(t)
		x.anew(t, 1+r.Intn(1024))
		x.whole(t)
	}
	for _, c := range []struct {
		what   int
		errors []api.Errno
	}{
		{head, []api.Errno{api.OK, api.ErrDown}},
		{setHead, []api.Errno{api.OK, api.ErrForm}},
		{get, []api.Errno{api.OK, api.ErrRange, api.ErrNone, api.ErrDown}},
		{put, []api.Errno{api.OK, api.ErrRange, api.ErrNone, api.ErrForm, api.ErrDown}},
		{alloc, []api.Errno{api.OK, api.ErrFull, api.ErrDown}},
		{release, []api.Errno{api.OK, api.ErrRange, api.ErrNone, api.ErrDown}},
		{commit, []api.Errno{api.OK, api.ErrDown}},
	} {
		for _, e := range c.errors {
			if met[[2]int{c.what, int(e)}] < 20 {
				t.Errorf("%v with %v was met %d times only", act{what: c.what}, e, met[[2]int{c.what, int(e)}])
			}
		}
	}
}

// TestSameAgain: the same calls make the same disk, block by block, whatever room there is (R5).
func TestSameAgain(t *testing.T) {
	blocks := drawnBlocks(rand.New(rand.NewSource(18)), 64)
	var logs [][]api.Page
	for _, room := range []int{5, 5, 1, 2, 1024} {
		r := rand.New(rand.NewSource(19))
		d := diskOf(t, blocks)
		x := begin(t, d, room)
		for range 400 {
			if a := drawnAct(r, 64); a.what != cut && a.what != fail {
				x.do(t, a)
			}
		}
		logs = append(logs, d.Log())
	}
	for i := range logs {
		if !slices.Equal(logs[i], logs[0]) {
			t.Error("the same calls have come to something else")
		}
	}
}
