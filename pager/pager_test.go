package pager_test

import (
	"math"
	"math/rand"
	"slices"
	"testing"

	"aumbry/api"
	"aumbry/disk"
	"aumbry/pager"
)

// sizes are disks with and without a block that is left, and where the journal's list grows by a block.
var sizes = []int{64, 65, 66, 258, 259, 260, 261, 900, 2047, 2048}

// TestExample: the chapter's own.
func TestExample(t *testing.T) {
	d, _ := disk.New(64)
	p, e := pager.New(d, 2)
	if e != api.OK {
		t.Fatal(e)
	}
	for _, at := range []int{34, 35, 34, 36} {
		if s, e := p.Load(at); s != zeros || e != api.OK {
			t.Errorf("Load(%d) = %.9q, %v", at, s, e)
		}
	}
	if !slices.Equal(p.Held(), []int{34, 36}) || len(p.Dirty()) != 0 || p.Reads() != 3 {
		t.Errorf("held %v, changed %v, %d reads", p.Held(), p.Dirty(), p.Reads())
	}
	if e := p.Store(36, filled('x')); e != api.OK || !slices.Equal(p.Held(), []int{34}) || !slices.Equal(p.Dirty(), []int{36}) {
		t.Errorf("Store: %v, held %v, changed %v", e, p.Held(), p.Dirty())
	}
	if e := p.Commit(); e != api.OK || !slices.Equal(p.Held(), []int{34, 36}) || len(p.Dirty()) != 0 || p.Reads() != 3 {
		t.Errorf("Commit: %v, held %v, changed %v, %d reads", e, p.Held(), p.Dirty(), p.Reads())
	}
	if d.Image()[36] != filled('x') {
		t.Error("page 36 isn't written")
	}
}

// TestNew: a disk must be there, and room for 1 to 1024 pages; the pager has none then, and the disk is as it was (P11.1).
func TestNew(t *testing.T) {
	for _, down := range []bool{false, true} {
		d, _ := disk.New(64)
		if down {
			d.Cut(0)
			d.Write(0, zeros)
		}
		for _, room := range []int{math.MinInt, -1024, -1, 0, 1, 2, 31, 64, 1023, 1024, 1025, 2048, 1 << 32, 1<<32 + 1, math.MaxInt} {
			want := api.OK
			if room < 1 || room > 1024 {
				want = api.ErrRange
			}
			p, e := pager.New(d, room)
			if e != want || (p == nil) != (want != api.OK) {
				t.Errorf("room %d: %v, %v", room, p != nil, e)
			}
			if len(p.Dirty()) != 0 || len(p.Held()) != 0 || p.Reads() != 0 {
				t.Errorf("room %d: a new pager has pages", room)
			}
			if p, e := pager.New(nil, room); p != nil || e != api.ErrNil {
				t.Errorf("a nil disk, room %d: %v, %v", room, p != nil, e)
			}
		}
		if len(d.Log()) != 0 || d.Down() != down {
			t.Error("New has done something to the disk")
		}
	}
}

// TestNewPagers: two pagers over one disk have nothing in common but that.
func TestNewPagers(t *testing.T) {
	d, _ := disk.New(64)
	p, _ := pager.New(d, 3)
	q, _ := pager.New(d, 3)
	if p.Pin(34) != api.OK || p.Store(35, filled('x')) != api.OK {
		t.Fatal("refused")
	}
	if len(q.Held()) != 0 || len(q.Dirty()) != 0 || q.Reads() != 0 || q.Unpin(34) != api.ErrNone || q.Store(34, zeros) != api.OK {
		t.Error("one pager has the other's pages")
	}
	if s, e := q.Load(35); s != zeros || e != api.OK {
		t.Errorf("what waits is told by another pager: %.9q, %v", s, e)
	}
	if p.Commit() != api.OK {
		t.Error("Commit")
	}
	r, _ := pager.New(d, 3)
	if s, e := r.Load(35); s != filled('x') || e != api.OK {
		t.Errorf("what was written isn't told by a new pager: %.9q, %v", s, e)
	}
}

// TestNil: a nil pager refuses everything, whatever the arguments, and has nothing (R2, P11.5).
func TestNil(t *testing.T) {
	var p *pager.Pager
	for _, at := range []int{math.MinInt, -1, 0, 1, 33, 34, 63, 64, math.MaxInt} {
		for _, s := range []string{"", "x", zeros, zeros + "x"} {
			if e := p.Store(at, s); e != api.ErrNil {
				t.Errorf("Store(%d) = %v", at, e)
			}
		}
		if s, e := p.Load(at); s != "" || e != api.ErrNil {
			t.Errorf("Load(%d) = %.9q, %v", at, s, e)
		}
		if e := p.Pin(at); e != api.ErrNil {
			t.Errorf("Pin(%d) = %v", at, e)
		}
		if e := p.Unpin(at); e != api.ErrNil {
			t.Errorf("Unpin(%d) = %v", at, e)
		}
	}
	if e := p.Commit(); e != api.ErrNil {
		t.Errorf("Commit = %v", e)
	}
	p.Undo()
	if len(p.Dirty()) != 0 || len(p.Held()) != 0 || p.Reads() != 0 {
		t.Error("a nil pager has something")
	}
}

// TestPages: just the pages are loaded, stored and pinned, on disks of any size; other numbers are refused, and nothing comes of it (P11.2, P11.3).
func TestPages(t *testing.T) {
	r := rand.New(rand.NewSource(1))
	for _, n := range sizes {
		blocks := drawnBlocks(r, n)
		pages := pagesOf(n)
		d := diskOf(t, blocks)
		p, _ := pager.New(d, 1)
		numbers := []int{math.MinInt, math.MinInt + 64, -n, -2, n + 2, 1<<16 + 34, 1 << 32, 1<<32 + 34, math.MaxInt - 1, math.MaxInt}
		for at := -1; at <= n+1; at++ {
			numbers = append(numbers, at)
		}
		for _, at := range numbers {
			want, data := api.ErrRange, ""
			if slices.Contains(pages, at) {
				want, data = api.OK, blocks[at]
			}
			before := p.Reads()
			if s, e := p.Load(at); s != data || e != want || (p.Reads() > before) != (want == api.OK) {
				t.Fatalf("%d blocks: Load(%d) = %.9q, %v, want %v", n, at, s, e, want)
			}
			if e := p.Pin(at); e != want {
				t.Fatalf("%d blocks: Pin(%d) = %v, want %v", n, at, e, want)
			}
			if e := p.Unpin(at); (e == api.OK) != (want == api.OK) || e != api.OK && e != api.ErrNone {
				t.Fatalf("%d blocks: Unpin(%d) = %v", n, at, e)
			}
			if e := p.Store(at, zeros); e != want || len(p.Dirty()) > 1 {
				t.Fatalf("%d blocks: Store(%d) = %v, want %v", n, at, e, want)
			}
			p.Undo()
		}
		if p.Reads() != len(pages) {
			t.Errorf("%d blocks: %d reads of %d pages", n, p.Reads(), len(pages))
		}
	}
}

// TestErrors: of several errors that apply the one that is named first is answered, and nothing has changed (P11.2, P11.3, R2).
func TestErrors(t *testing.T) {
	r := rand.New(rand.NewSource(2))
	for _, down := range []bool{false, true} {
		x := begin(t, drawnBlocks(r, 64), 2)
		for _, a := range []act{{what: store, at: 40, s: drawn(r)}, {what: pin, at: 34}, {what: load, at: 35}} {
			x.do(t, a)
		}
		if down {
			x.do(t, act{what: cut})
			x.do(t, act{what: commit})
		}
		for _, at := range []int{math.MinInt, -1, 1, 2, 33, 64, math.MaxInt} {
			for _, s := range []string{"", zeros[1:], zeros, zeros + "x"} {
				want(t, x.do(t, act{what: store, at: at, s: s}), api.ErrRange)
			}
			want(t, x.do(t, act{what: load, at: at}), api.ErrRange)
			want(t, x.do(t, act{what: pin, at: at}), api.ErrRange)
			want(t, x.do(t, act{what: unpin, at: at}), api.ErrNone)
		}
		for _, at := range []int{0, 34, 35, 40, 63} {
			for _, size := range []int{0, 1, 128, 255, 257, 512, 65536, 65792} {
				want(t, x.do(t, act{what: store, at: at, s: string(make([]byte, size))}), api.ErrForm)
			}
			if at != 34 {
				want(t, x.do(t, act{what: unpin, at: at}), api.ErrNone)
			}
		}
		want(t, x.do(t, act{what: store, at: 34, s: zeros}), api.ErrMany)
		want(t, x.do(t, act{what: pin, at: 40}), api.ErrOrder)
		want(t, x.do(t, act{what: pin, at: 35}), api.OK)
		// All room is taken by pages with pins now: a changed page is that first; the disk isn't asked for another one, so that its power doesn't count.
		want(t, x.do(t, act{what: pin, at: 40}), api.ErrOrder)
		want(t, x.do(t, act{what: pin, at: 36}), api.ErrMany)
		want(t, x.do(t, act{what: pin, at: 33}), api.ErrRange)
		x.do(t, act{what: restore})
		x.end(t)
	}
}

func want(t testing.TB, got, want api.Errno) {
	t.Helper()
	if got != want {
		t.Fatalf("%v, want %v", got, want)
	}
}

// TestUses: a held page that is loaded or pinned is the one used last from then on; nothing else is a use (P11.2, P11.3).
func TestUses(t *testing.T) {
	d, _ := disk.New(64)
	p, _ := pager.New(d, 4)
	for _, c := range []struct {
		do   func() api.Errno
		want []int
	}{
		{func() api.Errno { _, e := p.Load(34); return e }, []int{34}},
		{func() api.Errno { _, e := p.Load(35); return e }, []int{34, 35}},
		{func() api.Errno { return p.Pin(36) }, []int{34, 35, 36}},
		{func() api.Errno { _, e := p.Load(0); return e }, []int{34, 35, 36, 0}},
		{func() api.Errno { _, e := p.Load(34); return e }, []int{35, 36, 0, 34}},
		{func() api.Errno { _, e := p.Load(34); return e }, []int{35, 36, 0, 34}},
		{func() api.Errno { return p.Pin(36) }, []int{35, 0, 34, 36}},
		{func() api.Errno { return p.Pin(35) }, []int{0, 34, 36, 35}},
		{func() api.Errno { return p.Unpin(36) }, []int{0, 34, 36, 35}},
		{func() api.Errno { return p.Unpin(36) }, []int{0, 34, 36, 35}},
		{func() api.Errno { return p.Unpin(35) }, []int{0, 34, 36, 35}},
		{func() api.Errno { return p.Store(40, zeros) }, []int{0, 34, 36, 35}},
		{func() api.Errno { _, e := p.Load(40); return e }, []int{0, 34, 36, 35}},
		{func() api.Errno { return p.Store(34, zeros) }, []int{0, 36, 35}},
		{func() api.Errno { p.Undo(); return api.OK }, []int{0, 36, 35}},
		{func() api.Errno { return p.Store(41, zeros) }, []int{0, 36, 35}},
		{func() api.Errno { return p.Commit() }, []int{0, 36, 35, 41}},
		{func() api.Errno { _, e := p.Load(50); return e }, []int{36, 35, 41, 50}},
		{func() api.Errno { return p.Pin(51) }, []int{35, 41, 50, 51}},
	} {
		if e := c.do(); e != api.OK || !slices.Equal(p.Held(), c.want) {
			t.Fatalf("%v, held %v, want %v", e, p.Held(), c.want)
		}
	}
	if p.Reads() != 6 {
		t.Errorf("%d reads", p.Reads())
	}
}

// TestReads: the disk is asked for what is neither changed nor held, and for nothing else (P11.2, P11.5).
func TestReads(t *testing.T) {
	d, _ := disk.New(64)
	p, _ := pager.New(d, 2)
	reads := 0
	for _, c := range []struct{ at, more int }{{34, 1}, {34, 0}, {35, 1}, {34, 0}, {36, 1}, {35, 1}, {36, 0}, {34, 1}} {
		p.Load(c.at)
		reads += c.more
		if p.Reads() != reads {
			t.Fatalf("Load(%d): %d reads, want %d", c.at, p.Reads(), reads)
		}
	}
	// Held are 36, 34. Neither storing nor committing reads, nor loading what waits or was written.
	p.Store(34, filled('a'))
	p.Store(50, filled('b'))
	p.Load(34)
	p.Load(50)
	p.Commit()
	p.Load(34)
	p.Load(50)
	if p.Reads() != reads {
		t.Errorf("%d reads, want %d", p.Reads(), reads)
	}
	// What was undone is asked for again.
	p.Store(50, filled('c'))
	p.Undo()
	if s, e := p.Load(50); s != filled('b') || e != api.OK || p.Reads() != reads+1 {
		t.Errorf("behind Undo: %.9q, %v, %d reads", s, e, p.Reads())
	}
}

// TestHeldData: of a held page what was read is answered, also where the disk was written by somebody else since; of one that has gone the disk tells (P11.2).
func TestHeldData(t *testing.T) {
	d, _ := disk.New(64)
	p, _ := pager.New(d, 1)
	p.Load(34)
	d.Write(34, filled('x'))
	if s, e := p.Load(34); s != zeros || e != api.OK || p.Reads() != 1 {
		t.Errorf("held: %.9q, %v, %d reads", s, e, p.Reads())
	}
	p.Load(35)
	if s, e := p.Load(34); s != filled('x') || e != api.OK || p.Reads() != 3 {
		t.Errorf("gone: %.9q, %v, %d reads", s, e, p.Reads())
	}
}

// TestPins: a page has as many pins as it was given and not taken; as long as it has any it stays, and isn't stored (P11.2, P11.3).
func TestPins(t *testing.T) {
	for _, pins := range []int{1, 2, 3, 300, 70000} {
		d, _ := disk.New(64)
		p, _ := pager.New(d, 2)
		for range pins {
			want(t, p.Pin(34), api.OK)
		}
		if p.Reads() != 1 {
			t.Errorf("%d pins: %d reads", pins, p.Reads())
		}
		for i := range pins {
			if i < 5 || i > pins-5 {
				want(t, p.Store(34, zeros), api.ErrMany)
				for _, at := range []int{0, 40, 41} {
					p.Load(at)
					if !slices.Equal(p.Held(), []int{34, at}) {
						t.Fatalf("%d pins, %d taken: held %v", pins, i, p.Held())
					}
				}
			}
			want(t, p.Unpin(34), api.OK)
		}
		want(t, p.Unpin(34), api.ErrNone)
		want(t, p.Unpin(41), api.ErrNone)
		p.Load(42)
		if !slices.Equal(p.Held(), []int{41, 42}) {
			t.Errorf("%d pins, all taken: held %v", pins, p.Held())
		}
		want(t, p.Store(42, zeros), api.OK)
		want(t, p.Unpin(42), api.ErrNone)
	}
}

// TestPinsGone: a page that went and came again has the pins alone that it was given since.
func TestPinsGone(t *testing.T) {
	d, _ := disk.New(64)
	p, _ := pager.New(d, 1)
	for range 3 {
		want(t, p.Pin(34), api.OK)
		want(t, p.Unpin(34), api.OK)
		p.Load(35)
		want(t, p.Unpin(34), api.ErrNone)
		p.Load(34)
		want(t, p.Unpin(34), api.ErrNone)
		want(t, p.Store(34, zeros), api.OK)
		want(t, p.Pin(34), api.ErrOrder)
		want(t, p.Commit(), api.OK)
		want(t, p.Unpin(34), api.ErrNone)
	}
}

// TestAllPinned: where all room is taken by pages with pins, others are loaded, stored and written, but neither held nor pinned (P11.2 to P11.4).
func TestAllPinned(t *testing.T) {
	r := rand.New(rand.NewSource(3))
	for room := 1; room <= 5; room++ {
		x := begin(t, drawnBlocks(r, 64), room)
		for i := range room {
			want(t, x.do(t, act{what: pin, at: 34 + i}), api.OK)
		}
		held := x.p.Held()
		for range 2 {
			for _, at := range []int{0, 50, 63} {
				want(t, x.do(t, act{what: load, at: at}), api.OK)
				want(t, x.do(t, act{what: pin, at: at}), api.ErrMany)
			}
		}
		if x.p.Reads() != room+6 {
			t.Errorf("room %d: %d reads", room, x.p.Reads())
		}
		want(t, x.do(t, act{what: store, at: 50, s: drawn(r)}), api.OK)
		want(t, x.do(t, act{what: commit}), api.OK)
		if !slices.Equal(x.p.Held(), held) {
			t.Errorf("room %d: held %v, want %v", room, x.p.Held(), held)
		}
		// A held page may have one pin more even so; and where one has none any more, it goes.
		want(t, x.do(t, act{what: pin, at: 34}), api.OK)
		want(t, x.do(t, act{what: unpin, at: 34}), api.OK)
		want(t, x.do(t, act{what: pin, at: 50}), api.ErrMany)
		want(t, x.do(t, act{what: unpin, at: 34}), api.OK)
		want(t, x.do(t, act{what: pin, at: 50}), api.OK)
		if slices.Contains(x.p.Held(), 34) || !slices.Contains(x.p.Held(), 50) {
			t.Errorf("room %d: held %v", room, x.p.Held())
		}
		x.end(t)
	}
}

// TestRoom: of many pages the room's last ones are held, on great disks too; room for more than there are pages holds them all (P11.6).
func TestRoom(t *testing.T) {
	r := rand.New(rand.NewSource(4))
	for _, n := range []int{64, 2048} {
		pages := pagesOf(n)
		for _, room := range []int{1, 2, 30, 31, 32, 500, 1018, 1019, 1020, 1024} {
			d := diskOf(t, drawnBlocks(r, n))
			p, _ := pager.New(d, room)
			order := slices.Clone(pages)
			r.Shuffle(len(order), func(i, j int) { order[i], order[j] = order[j], order[i] })
			for _, at := range order {
				p.Load(at)
			}
			if want := order[max(0, len(order)-room):]; !slices.Equal(p.Held(), want) || p.Reads() != len(order) {
				t.Fatalf("%d blocks, room %d: held %v, want %v", n, room, p.Held(), want)
			}
		}
	}
}
