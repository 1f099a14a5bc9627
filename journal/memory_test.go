package journal_test

import (
	"math/rand"
	"slices"
	"testing"
	"unsafe"

	"aumbry/api"
	"aumbry/journal"
)

// inks are texts whose bytes can be written over behind their backs, as those of texts can that lie in a buffer.
type inks struct{ all [][]byte }

func (k *inks) text(s string) string {
	b := append(make([]byte, 0, len(s)), s...)
	k.all = append(k.all, b)
	return unsafe.String(unsafe.SliceData(b), len(s))
}

func (k *inks) spoil() {
	for _, b := range k.all {
		for i := range b {
			b[i] = 'q'
		}
	}
}

// pages are these in a list with spare room, which is filled.
func (k *inks) pages(l []api.Page) []api.Page {
	own := make([]api.Page, 0, len(l)+9)
	for _, p := range l {
		own = append(own, api.Page{At: p.At, Data: k.text(p.Data)})
	}
	for i := len(own); i < cap(own); i++ {
		own[:cap(own)][i] = api.Page{At: -7, Data: "spare"}
	}
	return own
}

// TestHandedIn: a list of pages is neither changed, its spare room included, nor kept, be it taken, cut off or refused (R4).
func TestHandedIn(t *testing.T) {
	r := rand.New(rand.NewSource(18))
	for _, cut := range []int{-1, 0, 2, 5, 6, 7, 9} {
		for _, wrong := range []bool{false, true} {
			plain := drawnGroup(r, 64, 5)
			if wrong {
				plain[4].Data = "short"
			}
			var k, other inks
			given, same := k.pages(plain), other.pages(plain)
			first := drawnBlocks(r, 64)
			d := diskOf(t, first)
			d.Cut(cut)
			e := journal.Commit(d, given)
			if wrong != (e == api.ErrForm) {
				t.Fatal(e)
			}
			if !slices.Equal(given[:cap(given)], same[:cap(same)]) {
				t.Errorf("cut %d, wrong %v: what was handed in has changed", cut, wrong)
			}
			image, log := d.Image(), d.Log()
			k.spoil()
			clear(given[:cap(given)])
			if !slices.Equal(d.Image(), image) || !slices.Equal(d.Log(), log) {
				t.Errorf("cut %d, wrong %v: what was handed in is kept", cut, wrong)
			}
			if wrong {
				continue
			}
			settles(t, d, nil)
			if cut < 0 {
				cut = len(commitWrites(64, plain))
			}
			holdsPages(t, d, first, plain, cut)
		}
	}
}

// TestSameAgain: the same calls answer the same on a disk that has been through the same (R5).
func TestSameAgain(t *testing.T) {
	first := drawnBlocks(rand.New(rand.NewSource(19)), 100)
	var logs [][]api.Page
	for range 2 {
		r := rand.New(rand.NewSource(20))
		d := diskOf(t, first)
		for range 30 {
			l := drawnGroup(r, 100, r.Intn(20))
			d.Cut(r.Intn(60))
			journal.Commit(d, l)
			d.Restore()
			journal.Recover(d)
		}
		logs = append(logs, d.Log())
	}
	if !slices.Equal(logs[0], logs[1]) {
		t.Error("the same calls have written something else")
	}
}

// TestAnything: every call ends, none panics, at any arguments (R1), and what is no group is told by the model.
func TestAnything(t *testing.T) {
	r := rand.New(rand.NewSource(21))
	met := map[api.Errno]int{}
	for range 6000 {
		n := []int{64, 65, 66}[r.Intn(3)]
		l := drawnGroup(r, n, r.Intn(placeOf(n).m+1))
		for range r.Intn(3) {
			if len(l) == 0 {
				break
			}
			i := r.Intn(len(l))
			switch r.Intn(4) {
			case 0:
				l[i].At = []int{1, 2, 3, 33, 34, 35, 36, n - 1, n, n + 1, -1, int(r.Uint64())}[r.Intn(12)]
			case 1:
				l[i].Data = string(make([]byte, []int{0, 1, 255, 256, 257}[r.Intn(5)]))
			case 2:
				l[i].At = l[r.Intn(len(l))].At
			case 3:
				l = append(l, drawnGroup(r, n, r.Intn(9))...)
			}
		}
		want := wantCommit(n, l)
		met[want]++
		d := diskOf(t, drawnBlocks(r, n))
		if e := journal.Commit(d, l); e != want || want != api.OK && len(d.Log()) != 0 {
			t.Fatalf("pages %v on %d blocks: %v, want %v", numbersOf(l), n, e, want)
		}
	}
	for _, e := range []api.Errno{api.OK, api.ErrMany, api.ErrRange, api.ErrForm, api.ErrTwice} {
		if met[e] < 100 {
			t.Errorf("%v was met %d times only", e, met[e])
		}
	}
}

// wantCommit is what a Commit is to answer with the power on.
func wantCommit(n int, l []api.Page) api.Errno {
	p := placeOf(n)
	if len(l) > p.m {
		return api.ErrMany
	}
	for i, page := range l {
		if !slices.Contains(p.pages, page.At) {
			return api.ErrRange
		}
		if len(page.Data) != 256 {
			return api.ErrForm
		}
		if slices.Contains(numbersOf(l[:i]), page.At) {
			return api.ErrTwice
		}
	}
	return api.OK
}
