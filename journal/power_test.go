package journal_test

import (
	"math/rand"
	"slices"
	"testing"

	"aumbry/api"
	"aumbry/disk"
	"aumbry/journal"
)

// cutCommit does a Commit whose power fails ahead of the write that is told, and holds the answer and what was written against the model.
func cutCommit(t *testing.T, d *disk.Disk, l []api.Page, cut int) {
	t.Helper()
	before := d.Log()
	want := commitWrites(d.Len(), l)
	d.Cut(cut)
	e := journal.Commit(d, l)
	if (e == api.OK) != (cut >= len(want)) || e != api.OK && e != api.ErrDown || d.Down() != (e != api.OK) {
		t.Fatalf("%d pages, cut %d: %v, down %v", len(l), cut, e, d.Down())
	}
	if !slices.Equal(d.Log()[len(before):], want[:min(cut, len(want))]) {
		t.Fatalf("%d pages, cut %d: written %v", len(l), cut, numbersOf(d.Log()[len(before):]))
	}
}

// settles recovers a disk whose power fails at the cuts, one behind the other, and then no more. It answers how many pages the last Recover had.
func settles(t *testing.T, d *disk.Disk, cuts []int) int {
	t.Helper()
	for _, cut := range cuts {
		d.Restore()
		d.Cut(cut)
		if n, e := journal.Recover(d); e != api.OK && (e != api.ErrDown || n != 0) {
			t.Fatalf("Recover: %d, %v", n, e)
		}
	}
	d.Restore()
	n, e := journal.Recover(d)
	if e != api.OK {
		t.Fatalf("Recover: %v", e)
	}
	return n
}

// holdsPages: the pages are all as they were, if the power failed ahead of the head's first write, else all as they were to be; what is no page, but the journal's blocks, is as it was (P10.4).
func holdsPages(t *testing.T, d *disk.Disk, first []string, l []api.Page, cut int) {
	t.Helper()
	want := pagesOf(first)
	if cut > headWrite(len(l)) {
		want = pagesOf(done(first, l))
	}
	image := d.Image()
	if !slices.Equal(pagesOf(image), want) {
		t.Fatalf("%d pages on %d blocks, cut %d: the pages aren't as they must be", len(l), len(first), cut)
	}
	p := placeOf(len(first))
	if rest := p.pages[len(p.pages)-1] + 1; !slices.Equal(image[rest:], first[rest:]) {
		t.Fatalf("%d pages on %d blocks, cut %d: what is left at the end has changed", len(l), len(first), cut)
	}
	if n, e := journal.Recover(d); n != 0 || e != api.OK {
		t.Fatalf("Recover once more: %d, %v", n, e)
	}
}

// TestPowerFails: at every write of a Commit, and then at every write of a Recover (P10.4).
func TestPowerFails(t *testing.T) {
	r := rand.New(rand.NewSource(13))
	for _, n := range []int{64, 65, 66} {
		for _, count := range []int{1, 2, 3, 8} {
			first := drawnBlocks(r, n)
			l := drawnGroup(r, n, count)
			for cut := range len(commitWrites(n, l)) + 1 {
				for again := -1; again <= count+1; again++ {
					d := diskOf(t, first)
					cutCommit(t, d, l, cut)
					var cuts []int
					if again >= 0 {
						cuts = []int{again}
					}
					settles(t, d, cuts)
					holdsPages(t, d, first, l, cut)
				}
			}
		}
	}
}

// TestPowerFailsOften: within Recover again and again, each time at another write (P10.4).
func TestPowerFailsOften(t *testing.T) {
	r := rand.New(rand.NewSource(14))
	for range 1500 {
		n := []int{64, 65, 66, 261}[r.Intn(4)]
		first := drawnBlocks(r, n)
		l := drawnGroup(r, n, r.Intn(placeOf(n).m)+1)
		cut := r.Intn(len(commitWrites(n, l)) + 1)
		if r.Intn(3) == 0 {
			cut = headWrite(len(l)) + r.Intn(2)
		}
		d := diskOf(t, first)
		cutCommit(t, d, l, cut)
		var cuts []int
		for range r.Intn(6) {
			cuts = append(cuts, r.Intn(len(l)+2))
		}
		settles(t, d, cuts)
		holdsPages(t, d, first, l, cut)
	}
}

// TestPowerFailsWide: groups whose numbers need several blocks of the list, at the writes where something new begins (P10.4).
func TestPowerFailsWide(t *testing.T) {
	r := rand.New(rand.NewSource(15))
	for _, c := range [][2]int{{520, 129}, {520, 200}, {2047, 1019}, {2048, 1019}, {2048, 512}} {
		n, count := c[0], c[1]
		first := drawnBlocks(r, n)
		l := drawnGroup(r, n, count)
		head, all := headWrite(count), len(commitWrites(n, l))
		for _, cut := range []int{0, 1, count - 1, count, count + 1, head - 1, head, head + 1, head + 2, head + count/2, all - 2, all - 1, all} {
			for _, cuts := range [][]int{nil, {0}, {1, count / 2}, {count - 1, count, 3}, {count, count + 1}} {
				d := diskOf(t, first)
				cutCommit(t, d, l, cut)
				settles(t, d, cuts)
				holdsPages(t, d, first, l, cut)
			}
		}
	}
}

// TestHowMany: behind a cut Recover tells how many pages it brought where they belong (P10.3, P10.4).
func TestHowMany(t *testing.T) {
	r := rand.New(rand.NewSource(16))
	for _, count := range []int{1, 4, 31} {
		l := drawnGroup(r, 64, count)
		all := len(commitWrites(64, l))
		for cut := range all + 1 {
			d := diskOf(t, drawnBlocks(r, 64))
			cutCommit(t, d, l, cut)
			want := 0
			if cut > headWrite(count) && cut < all {
				want = count
			}
			if n := settles(t, d, nil); n != want {
				t.Errorf("%d pages, cut %d: %d, want %d", count, cut, n, want)
			}
		}
	}
}

// TestLife: a disk through many groups, cut anywhere and put right each time, is as if each group had been done wholly or not at all (P10.4).
func TestLife(t *testing.T) {
	r := rand.New(rand.NewSource(17))
	for _, n := range []int{64, 65, 261} {
		d := diskOf(t, drawnBlocks(r, n))
		for range 150 {
			first := d.Image()
			l := drawnGroup(r, n, r.Intn(placeOf(n).m)+1)
			// Some groups begin where the last one did: what it left behind mustn't be taken for theirs.
			if r.Intn(3) == 0 {
				l = l[:min(len(l), 2)]
			}
			cut := r.Intn(len(commitWrites(n, l)) + 1)
			cutCommit(t, d, l, cut)
			var cuts []int
			for range r.Intn(3) {
				cuts = append(cuts, r.Intn(len(l)+2))
			}
			settles(t, d, cuts)
			holdsPages(t, d, first, l, cut)
		}
	}
}
