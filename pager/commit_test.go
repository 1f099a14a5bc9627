package pager_test

import (
	"math/rand"
	"slices"
	"testing"

	"aumbry/api"
	"aumbry/disk"
	"aumbry/journal"
	"aumbry/pager"
)

// TestStored: what was stored last is answered, ahead of a Commit and behind it; Undo brings back what lies on the disk (P11.2, P11.4, P11.6).
func TestStored(t *testing.T) {
	d, _ := disk.New(64)
	p, _ := pager.New(d, 2)
	for _, early := range []bool{false, true} {
		for i, b := range []byte("abc") {
			at := 40 + i
			old := d.Image()[at]
			if early {
				p.Load(at)
			}
			want(t, p.Store(at, filled('x')), api.OK)
			want(t, p.Store(at, filled(b)), api.OK)
			if s, e := p.Load(at); s != filled(b) || e != api.OK || d.Image()[at] != old {
				t.Errorf("page %d: %.9q, %v", at, s, e)
			}
			p.Undo()
			if s, e := p.Load(at); s != old || e != api.OK || len(p.Dirty()) != 0 {
				t.Errorf("page %d behind Undo: %.9q, %v", at, s, e)
			}
			want(t, p.Store(at, filled(b)), api.OK)
			want(t, p.Commit(), api.OK)
			p.Undo()
			if s, e := p.Load(at); s != filled(b) || e != api.OK || d.Image()[at] != filled(b) {
				t.Errorf("page %d behind Commit: %.9q, %v", at, s, e)
			}
		}
	}
}

// TestStoreSame: a page is changed also where its bytes are what they were; as often as it is stored, it is written once.
func TestStoreSame(t *testing.T) {
	d, _ := disk.New(64)
	p, _ := pager.New(d, 2)
	for range 3 {
		want(t, p.Store(40, zeros), api.OK)
		if !slices.Equal(p.Dirty(), []int{40}) {
			t.Errorf("changed %v", p.Dirty())
		}
	}
	want(t, p.Commit(), api.OK)
	if len(d.Log()) != 5 {
		t.Errorf("%d writes", len(d.Log()))
	}
}

// TestWrites: the changed pages are written as one group, by rising numbers, whatever the order in which they were stored (P11.4).
func TestWrites(t *testing.T) {
	r := rand.New(rand.NewSource(5))
	for _, n := range sizes {
		pages := pagesOf(n)
		for _, count := range []int{0, 1, 2, 7, 127, 128, 129, len(pages) - 1, len(pages)} {
			if count > len(pages) {
				continue
			}
			blocks := drawnBlocks(r, n)
			d, other := diskOf(t, blocks), diskOf(t, blocks)
			p, _ := pager.New(d, 1+r.Intn(1024))
			var group []api.Page
			for _, i := range r.Perm(len(pages))[:count] {
				group = append(group, api.Page{At: pages[i], Data: drawn(r)})
				want(t, p.Store(pages[i], group[len(group)-1].Data), api.OK)
			}
			slices.SortFunc(group, func(a, b api.Page) int { return a.At - b.At })
			if !slices.Equal(p.Dirty(), numbersOf(group)) || len(d.Log()) != 0 {
				t.Fatalf("%d blocks: changed %v, want %v", n, p.Dirty(), numbersOf(group))
			}
			want(t, journal.Commit(other, group), api.OK)
			want(t, p.Commit(), api.OK)
			if !slices.Equal(d.Log(), other.Log()) {
				t.Fatalf("%d blocks, %d pages: written %v, want %v", n, count, numbersOf(d.Log()), numbersOf(other.Log()))
			}
			if len(p.Dirty()) != 0 || p.Reads() != 0 {
				t.Fatalf("%d blocks, %d pages: changed %v, %d reads", n, count, p.Dirty(), p.Reads())
			}
			// Once more there is nothing to write.
			want(t, p.Commit(), api.OK)
			if len(d.Log()) != len(other.Log()) {
				t.Fatalf("%d blocks, %d pages: written twice", n, count)
			}
		}
	}
}

func numbersOf(l []api.Page) []int {
	var numbers []int
	for _, p := range l {
		numbers = append(numbers, p.At)
	}
	return numbers
}

// TestHeldBehindCommit: each page that was written is held then, by rising numbers, as if it had been read; pages with pins stay (P11.4).
func TestHeldBehindCommit(t *testing.T) {
	for _, c := range []struct {
		room               int
		load, pins, stores []int
		want               []int
	}{
		{1, nil, nil, []int{36, 34, 35}, []int{36}},
		{2, nil, nil, []int{36, 34, 35}, []int{35, 36}},
		{2, nil, nil, []int{63, 0, 34}, []int{34, 63}},
		{3, []int{40, 41}, nil, []int{36, 34}, []int{41, 34, 36}},
		{3, []int{40, 41, 42}, nil, []int{41}, []int{40, 42, 41}},
		{3, []int{40, 41, 42}, nil, []int{41, 40}, []int{42, 40, 41}},
		{3, []int{40}, []int{41}, []int{36, 34}, []int{41, 34, 36}},
		{3, []int{40}, []int{41}, []int{36, 34, 35}, []int{41, 35, 36}},
		{3, nil, []int{40, 41}, []int{36, 34}, []int{40, 41, 36}},
		{3, nil, []int{40, 41, 42}, []int{36, 34}, []int{40, 41, 42}},
		{1024, []int{40}, []int{41}, []int{36, 0, 34}, []int{40, 41, 0, 34, 36}},
	} {
		d, _ := disk.New(64)
		p, _ := pager.New(d, c.room)
		for _, at := range c.load {
			p.Load(at)
		}
		for _, at := range c.pins {
			want(t, p.Pin(at), api.OK)
		}
		for _, at := range c.stores {
			want(t, p.Store(at, filled(byte(at))), api.OK)
		}
		want(t, p.Commit(), api.OK)
		if !slices.Equal(p.Held(), c.want) {
			t.Errorf("%+v: held %v", c, p.Held())
		}
		reads := p.Reads()
		for _, at := range c.want {
			if slices.Contains(c.stores, at) {
				if s, e := p.Load(at); s != filled(byte(at)) || e != api.OK {
					t.Errorf("%+v: page %d is %.9q, %v", c, at, s, e)
				}
				want(t, p.Unpin(at), api.ErrNone)
			}
		}
		if p.Reads() != reads {
			t.Errorf("%+v: a held page was read", c)
		}
	}
}

// TestPowerFails: wherever it fails in a Commit all stays as it is; with the power on again the Commit is done, or undone, and then what lies on the disk is told (P11.4, P11.6).
func TestPowerFails(t *testing.T) {
	r := rand.New(rand.NewSource(6))
	for _, count := range []int{1, 2, 5} {
		writes := 2*count + 3
		for cutAt := range writes {
			for _, again := range []bool{true, false} {
				x := begin(t, drawnBlocks(r, 64), 3)
				for _, a := range []act{{what: load, at: 50}, {what: pin, at: 51}, {what: load, at: 52}} {
					x.do(t, a)
				}
				for i := range count {
					x.do(t, act{what: store, at: 34 + i, s: drawn(r)})
				}
				dirty, held := x.p.Dirty(), x.p.Held()
				x.do(t, act{what: cut, at: cutAt})
				for range 2 {
					want(t, x.do(t, act{what: commit}), api.ErrDown)
					if !slices.Equal(x.p.Dirty(), dirty) || !slices.Equal(x.p.Held(), held) || x.p.Reads() != 3 {
						t.Fatalf("cut %d: changed %v, held %v", cutAt, x.p.Dirty(), x.p.Held())
					}
				}
				want(t, x.do(t, act{what: unpin, at: 51}), api.OK)
				x.do(t, act{what: restore})
				if again {
					want(t, x.do(t, act{what: commit}), api.OK)
				} else {
					x.do(t, act{what: undo})
				}
				x.end(t)
			}
		}
	}
}

// TestWhole: wherever the power fails in a Commit, behind journal.Recover a new pager has all that was stored, or none of it (P11.4, P11.6).
func TestWhole(t *testing.T) {
	r := rand.New(rand.NewSource(17))
	numbers := []int{0, 34, 40, 63}
	// Of the writes ahead of the head's first one there are four copies and a block of the list.
	for cutAt := range 12 {
		blocks := drawnBlocks(r, 64)
		d := diskOf(t, blocks)
		p, _ := pager.New(d, 2)
		stored := drawnBlocks(r, 64)
		for _, at := range numbers {
			p.Load(at)
			want(t, p.Store(at, stored[at]), api.OK)
		}
		d.Cut(cutAt)
		if e := p.Commit(); (e == api.OK) != (cutAt >= 11) {
			t.Fatalf("cut %d: %v", cutAt, e)
		}
		d.Restore()
		if _, e := journal.Recover(d); e != api.OK {
			t.Fatal(e)
		}
		there := blocks
		if cutAt > 5 {
			there = stored
		}
		q, _ := pager.New(d, 2)
		for _, at := range numbers {
			if s, e := q.Load(at); s != there[at] || e != api.OK {
				t.Errorf("cut %d: page %d isn't as it must be", cutAt, at)
			}
			if s, e := p.Load(at); s != stored[at] || e != api.OK {
				t.Errorf("cut %d: page %d isn't what was stored last", cutAt, at)
			}
		}
	}
}

// TestPowerOff: what is changed or held is told without the disk; of the rest its error is told, and nothing comes of it (P11.2 to P11.4, R6).
func TestPowerOff(t *testing.T) {
	r := rand.New(rand.NewSource(7))
	x := begin(t, drawnBlocks(r, 64), 2)
	for _, a := range []act{{what: load, at: 34}, {what: load, at: 35}, {what: store, at: 40, s: drawn(r)}, {what: cut}, {what: commit}} {
		x.do(t, a)
	}
	if !x.d.Down() {
		t.Fatal("the power is on")
	}
	for _, c := range []struct {
		act
		want api.Errno
	}{
		{act{what: load, at: 36}, api.ErrDown},
		{act{what: pin, at: 36}, api.ErrDown},
		{act{what: load, at: 0}, api.ErrDown},
		{act{what: load, at: 34}, api.OK},
		{act{what: load, at: 40}, api.OK},
		{act{what: pin, at: 34}, api.OK},
		{act{what: pin, at: 36}, api.ErrDown},
		{act{what: pin, at: 35}, api.OK},
		{act{what: pin, at: 36}, api.ErrMany},
		{act{what: load, at: 36}, api.ErrDown},
		{act{what: unpin, at: 34}, api.OK},
		{act{what: store, at: 34, s: drawn(r)}, api.OK},
		{act{what: store, at: 36, s: drawn(r)}, api.OK},
		{act{what: load, at: 36}, api.OK},
		{act{what: commit}, api.ErrDown},
		{act{what: undo}, api.OK},
		{act{what: load, at: 36}, api.ErrDown},
		// Without pages there is nothing to write.
		{act{what: commit}, api.OK},
		{act{what: load, at: 35}, api.OK},
	} {
		want(t, x.do(t, c.act), c.want)
	}
	if x.p.Reads() != 2 || !slices.Equal(x.p.Held(), []int{35}) {
		t.Errorf("%d reads, held %v", x.p.Reads(), x.p.Held())
	}
	x.do(t, act{what: restore})
	x.end(t)
}

// TestUndo: no page is changed any more, and none is held for it; the held ones, their pins and uses, are as they were (P11.4).
func TestUndo(t *testing.T) {
	r := rand.New(rand.NewSource(8))
	x := begin(t, drawnBlocks(r, 64), 3)
	x.do(t, act{what: undo})
	for _, a := range []act{{what: load, at: 34}, {what: pin, at: 35}, {what: load, at: 36}} {
		x.do(t, a)
	}
	for _, at := range []int{63, 36, 0} {
		x.do(t, act{what: store, at: at, s: drawn(r)})
	}
	for range 2 {
		x.do(t, act{what: undo})
		if len(x.p.Dirty()) != 0 || !slices.Equal(x.p.Held(), []int{34, 35}) {
			t.Errorf("changed %v, held %v", x.p.Dirty(), x.p.Held())
		}
	}
	want(t, x.do(t, act{what: commit}), api.OK)
	if len(x.d.Log()) != 0 {
		t.Error("what was undone is written")
	}
	want(t, x.do(t, act{what: pin, at: 36}), api.OK)
	want(t, x.do(t, act{what: unpin, at: 35}), api.OK)
	want(t, x.do(t, act{what: unpin, at: 35}), api.ErrNone)
	x.end(t)
}
