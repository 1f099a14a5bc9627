package pager_test

import (
	"math/rand"
	"slices"
	"testing"
	"unsafe"

	"aumbry/api"
	"aumbry/pager"
)

// span is where something lies in memory, its spare room included.
type span struct{ from, to uintptr }

func textSpan(s string) span {
	from := uintptr(unsafe.Pointer(unsafe.StringData(s)))
	return span{from, from + uintptr(len(s))}
}

func listSpan(l []int) span {
	from := uintptr(unsafe.Pointer(unsafe.SliceData(l)))
	return span{from, from + uintptr(cap(l))*unsafe.Sizeof(0)}
}

// apart reports whether no two of the spans have memory in common.
func apart(spans []span) bool {
	spans = slices.DeleteFunc(slices.Clone(spans), func(s span) bool { return s.from == s.to })
	slices.SortFunc(spans, func(a, b span) int {
		if a.from < b.from {
			return -1
		}
		return 1
	})
	for i := 1; i < len(spans); i++ {
		if spans[i].from < spans[i-1].to {
			return false
		}
	}
	return true
}

// ink is a text with the bytes under it, which can be written over behind its back, as those of a text can that lies in a buffer.
func ink(s string) (string, []byte) {
	b := []byte(s)
	return unsafe.String(unsafe.SliceData(b), len(b)), b
}

// TestNewMemory: what is answered lies apart from what is handed in and from every other answer, be the page changed, held or neither (R4).
func TestNewMemory(t *testing.T) {
	r := rand.New(rand.NewSource(11))
	d := diskOf(t, drawnBlocks(r, 64))
	p, _ := pager.New(d, 4)
	// All are kept, so that none of their memory is used again.
	var texts []string
	var lists [][]int
	for range 60 {
		at := 34 + r.Intn(8)
		switch r.Intn(6) {
		case 0:
			s := drawn(r)
			want(t, p.Store(at, s), api.OK)
			texts = append(texts, s)
		case 1:
			want(t, p.Commit(), api.OK)
		}
		for range 3 {
			s, e := p.Load(at)
			want(t, e, api.OK)
			texts = append(texts, s)
			lists = append(lists, p.Dirty(), p.Held())
		}
	}
	var spans []span
	for _, s := range texts {
		spans = append(spans, textSpan(s))
	}
	for _, l := range lists {
		spans = append(spans, listSpan(l))
	}
	if !apart(spans) {
		t.Error("answers share memory with what was handed in, or with each other")
	}
}

// TestHandedIn: data is neither changed nor kept as it is, be it stored or refused (R4).
func TestHandedIn(t *testing.T) {
	r := rand.New(rand.NewSource(12))
	for _, late := range []bool{false, true} {
		d := diskOf(t, drawnBlocks(r, 64))
		p, _ := pager.New(d, 2)
		want(t, p.Pin(34), api.OK)
		plain := drawn(r)
		s, b := ink(plain)
		want(t, p.Store(34, s), api.ErrMany)
		want(t, p.Store(33, s), api.ErrRange)
		want(t, p.Store(35, s[:255]), api.ErrForm)
		want(t, p.Store(35, s), api.OK)
		want(t, p.Store(36, s), api.OK)
		if late {
			want(t, p.Commit(), api.OK)
		}
		if s != plain {
			t.Error("what was handed in has changed")
		}
		clear(b)
		if !late {
			want(t, p.Commit(), api.OK)
		}
		for range 2 {
			for _, at := range []int{35, 36} {
				if s, e := p.Load(at); s != plain || e != api.OK || d.Image()[at] != plain {
					t.Errorf("page %d: what was handed in is kept as it is", at)
				}
			}
		}
	}
}

// TestWrittenOver: nothing that is answered is the pager's own, and none of it changes later (R4).
func TestWrittenOver(t *testing.T) {
	r := rand.New(rand.NewSource(13))
	x := begin(t, drawnBlocks(r, 64), 4)
	for range 300 {
		x.do(t, act{what: r.Intn(cut), at: 34 + r.Intn(8), s: drawn(r)})
		for _, l := range [][]int{x.p.Dirty(), x.p.Held()} {
			for i := range l[:cap(l)] {
				l[:cap(l)][i] = 63
			}
			_ = append(l, 63)
		}
		x.hold(t)
		dirty, held := x.p.Dirty(), x.p.Held()
		wantDirty, wantHeld := x.m.dirty(), x.m.held()
		x.do(t, act{what: load, at: 34 + r.Intn(8)})
		x.do(t, act{what: store, at: 34 + r.Intn(8), s: drawn(r)})
		if !slices.Equal(dirty, wantDirty) || !slices.Equal(held, wantHeld) {
			t.Fatal("an answer has changed")
		}
	}
	x.end(t)
}

// TestTextsWrittenOver: the bytes of a page that was answered may be written over; the pager, the disk and other answers don't tell (R4).
func TestTextsWrittenOver(t *testing.T) {
	r := rand.New(rand.NewSource(14))
	x := begin(t, drawnBlocks(r, 64), 3)
	for range 300 {
		x.do(t, act{what: []int{load, store, pin, unpin, commit, undo}[r.Intn(6)], at: 34 + r.Intn(6), s: drawn(r)})
		at := 34 + r.Intn(6)
		one, e := x.p.Load(at)
		want(t, e, api.OK)
		two, _ := x.p.Load(at)
		x.m.load(at)
		x.m.load(at)
		same := string([]byte(one))
		clear(unsafe.Slice(unsafe.StringData(one), len(one)))
		if two != same {
			t.Fatal("two answers share memory")
		}
		x.do(t, act{what: load, at: at})
	}
	x.end(t)
}

// TestSameAgain: the same calls answer the same of a pager that has been through the same, whatever map it keeps (R5).
func TestSameAgain(t *testing.T) {
	blocks := drawnBlocks(rand.New(rand.NewSource(15)), 64)
	var logs [][]api.Page
	var uses [][]int
	for range 3 {
		r := rand.New(rand.NewSource(16))
		d := diskOf(t, blocks)
		p, _ := pager.New(d, 12)
		var told []int
		for range 400 {
			for range 6 {
				p.Store(34+r.Intn(30), drawn(r))
				p.Load(34 + r.Intn(30))
			}
			p.Commit()
			told = append(told, p.Held()...)
		}
		logs, uses = append(logs, d.Log()), append(uses, told)
	}
	for i := range logs {
		if !slices.Equal(logs[i], logs[0]) || !slices.Equal(uses[i], uses[0]) {
			t.Error("the same calls have come to something else")
		}
	}
}
