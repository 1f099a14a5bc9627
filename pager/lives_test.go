package pager_test

import (
	"math/rand"
	"slices"
	"testing"

	"aumbry/api"
)

// TestShortLives: everything that a pager of three pages can go through in a few calls, held against the model.
func TestShortLives(t *testing.T) {
	blocks := slices.Repeat([]string{zeros}, 64)
	blocks[34], blocks[35], blocks[36] = filled('a'), filled('b'), filled('c')
	acts := []act{{what: commit}, {what: undo}}
	for _, at := range []int{34, 35, 36} {
		acts = append(acts, act{what: load, at: at}, act{what: pin, at: at})
		if at < 36 {
			acts = append(acts, act{what: unpin, at: at}, act{what: store, at: at, s: filled('x')})
		}
	}
	for _, room := range []int{1, 2} {
		life := make([]int, 4)
		for {
			x := begin(t, blocks, room)
			for _, i := range life {
				x.do(t, acts[i])
			}
			for _, at := range []int{34, 35, 36} {
				x.do(t, act{what: load, at: at})
			}
			if !next(life, len(acts)) {
				break
			}
		}
	}
}

// next counts a life on, as a number whose digits are below base; false behind the last one.
func next(life []int, base int) bool {
	for i := range life {
		life[i]++
		if life[i] < base {
			return true
		}
		life[i] = 0
	}
	return false
}

// drawnAct is any act on one of these pages, now and then of another number or another length.
func drawnAct(r *rand.Rand, n int, pages []int) act {
	// The more often a kind stands here, the more often it is drawn: power fails and commits come seldom.
	what := []int{load, load, load, load, store, store, pin, pin, unpin, unpin, commit, undo, cut, restore}[r.Intn(14)]
	a := act{what: what, at: pages[r.Intn(len(pages))]}
	switch what {
	case cut:
		a.at = r.Intn(30) - 3
	case store:
		a.s = drawn(r)
		if r.Intn(12) == 0 {
			a.s = a.s[:r.Intn(256)]
		}
	}
	if what != cut && r.Intn(25) == 0 {
		a.at = []int{-1, 1, 2, 33, n - 1, n, n + 1, int(r.Uint64())}[r.Intn(8)]
	}
	return a
}

// TestLongLives: drawn ones, over a few pages or all, with power that fails (P11.1 to P11.6, R1).
func TestLongLives(t *testing.T) {
	r := rand.New(rand.NewSource(9))
	met := map[[2]int]int{}
	for range 400 {
		n := []int{64, 65, 66, 100}[r.Intn(4)]
		all := pagesOf(n)
		r.Shuffle(len(all), func(i, j int) { all[i], all[j] = all[j], all[i] })
		room := []int{1, 2, 3, 5, 9, 40}[r.Intn(6)]
		pages := all[:min(len(all), room+1+r.Intn(6))]
		x := begin(t, drawnBlocks(r, n), room)
		for range 150 {
			a := drawnAct(r, n, pages)
			met[[2]int{a.what, int(x.do(t, a))}]++
		}
		x.do(t, act{what: restore})
		x.end(t)
	}
	for _, c := range []struct {
		what   int
		errors []api.Errno
	}{
		{load, []api.Errno{api.OK, api.ErrRange, api.ErrDown}},
		{store, []api.Errno{api.OK, api.ErrRange, api.ErrForm, api.ErrMany}},
		{pin, []api.Errno{api.OK, api.ErrRange, api.ErrOrder, api.ErrMany, api.ErrDown}},
		{unpin, []api.Errno{api.OK, api.ErrNone}},
		{commit, []api.Errno{api.OK, api.ErrDown}},
	} {
		for _, e := range c.errors {
			if met[[2]int{c.what, int(e)}] < 30 {
				t.Errorf("%v with %v was met %d times only", act{what: c.what}, e, met[[2]int{c.what, int(e)}])
			}
		}
	}
}

// TestWideLife: a great disk, and room for hundreds of pages.
func TestWideLife(t *testing.T) {
	r := rand.New(rand.NewSource(10))
	pages := pagesOf(2048)
	x := begin(t, drawnBlocks(r, 2048), 300)
	for i := range 4000 {
		a := act{what: []int{load, load, load, store, pin, unpin}[r.Intn(6)], at: pages[r.Intn(len(pages))], s: drawn(r)}
		if i%400 == 399 {
			a = act{what: commit}
		}
		x.do(t, a)
	}
	x.end(t)
}
