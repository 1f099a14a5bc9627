package space_test

import (
	"math/rand"
	"slices"
	"testing"
	"unsafe"

	"aumbry/api"
	"aumbry/disk"
)

// span is where something lies in memory, its spare room included.
type span struct{ from, to uintptr }

func textSpan(s string) span {
	from := uintptr(unsafe.Pointer(unsafe.StringData(s)))
	return span{from, from + uintptr(len(s))}
}

func listSpan(l []int) span {
	from := uintptr(unsafe.Pointer(unsafe.SliceData(l)))
	return span{from, from + uintptr(cap(l))*unsafe.Sizeof(0)}
}

// apart reports whether no two of the spans have memory in common.
func apart(spans []span) bool {
	spans = slices.DeleteFunc(slices.Clone(spans), func(s span) bool { return s.from == s.to })
	slices.SortFunc(spans, func(a, b span) int {
		if a.from < b.from {
			return -1
		}
		return 1
	})
	for i := 1; i < len(spans); i++ {
		if spans[i].from < spans[i-1].to {
			return false
		}
	}
	return true
}

// ink is a text with the bytes under it, which can be written over behind its back, as those of a text can that lies in a buffer.
func ink(s string) (string, []byte) {
	b := []byte(s)
	return unsafe.String(unsafe.SliceData(b), len(b)), b
}

// TestNewMemory: what is answered lies apart from what is handed in and from every other answer (R4).
func TestNewMemory(t *testing.T) {
	r := rand.New(rand.NewSource(20))
	x := settled(t, r, 3)
	// All are kept, so that none of their memory is used again.
	var spans []span
	var texts []string
	var lists [][]int
	for range 60 {
		at := 35 + r.Intn(6)
		switch r.Intn(5) {
		case 0:
			texts = append(texts, drawn(r))
			want(t, x.s.Put(at, texts[len(texts)-1]), api.OK)
		case 1:
			texts = append(texts, drawn(r)[:248])
			want(t, x.s.SetHead(texts[len(texts)-1]), api.OK)
		case 2:
			want(t, x.s.Commit(), api.OK)
		case 3:
			x.s.Undo()
		}
		for range 3 {
			data, e := x.s.Get(at)
			want(t, e, api.OK)
			h, e := x.s.Head()
			want(t, e, api.OK)
			texts = append(texts, data, h)
			lists = append(lists, x.s.Taken())
		}
	}
	for _, s := range texts {
		spans = append(spans, textSpan(s))
	}
	for _, l := range lists {
		spans = append(spans, listSpan(l))
	}
	if !apart(spans) {
		t.Error("answers share memory with what was handed in, or with each other")
	}
}

// TestHandedIn: data is neither changed nor kept as it is, be it taken or refused (R4).
func TestHandedIn(t *testing.T) {
	r := rand.New(rand.NewSource(21))
	for _, late := range []bool{false, true} {
		x := settled(t, r, 2)
		plain := drawn(r)
		data, b := ink(plain)
		want(t, x.s.Put(50, data), api.ErrNone)
		want(t, x.s.Put(34, data), api.ErrRange)
		want(t, x.s.Put(35, data[:255]), api.ErrForm)
		want(t, x.s.SetHead(data), api.ErrForm)
		want(t, x.s.Put(35, data), api.OK)
		want(t, x.s.SetHead(data[:248]), api.OK)
		if late {
			want(t, x.s.Commit(), api.OK)
		}
		if data != plain {
			t.Error("what was handed in has changed")
		}
		clear(b)
		if !late {
			want(t, x.s.Commit(), api.OK)
		}
		got, _ := x.s.Get(35)
		h, _ := x.s.Head()
		if got != plain || h != plain[:248] || x.d.Image()[35] != plain || x.d.Image()[0][8:] != plain[:248] {
			t.Error("what was handed in is kept as it is")
		}
	}
}

// TestWrittenOver: nothing that is answered is the space's own, nor the disk's, and none of it changes later (R4).
func TestWrittenOver(t *testing.T) {
	r := rand.New(rand.NewSource(22))
	x := settled(t, r, 2)
	for i := range 200 {
		x.do(t, []act{{what: put, at: 36, s: drawn(r)}, {what: setHead, s: drawn(r)[:248]}, {what: commit}, {what: alloc}, {what: undo}, {what: cut, at: 9}, {what: commit}, {what: restore}}[i%8])
		if x.d.Down() {
			continue
		}
		l := x.s.Taken()
		for i := range l[:cap(l)] {
			l[:cap(l)][i] = 63
		}
		h, _ := x.s.Head()
		data, _ := x.s.Get(36)
		for _, s := range []string{h, data} {
			clear(unsafe.Slice(unsafe.StringData(s), len(s)))
		}
		x.whole(t)
		x.hold(t)
		l, h = x.s.Taken(), x.m.now.head
		early, _ := x.s.Head()
		wantL := x.m.now.taken()
		x.do(t, act{what: alloc})
		x.do(t, act{what: setHead, s: drawn(r)[:248]})
		if !slices.Equal(l, wantL) || early != h {
			t.Fatal("an answer has changed")
		}
	}
	x.do(t, act{what: restore})
	x.anew(t, 2)
}

// TestTakenRoom: of a disk with nothing taken, or all of it, too, the list is new each time.
func TestTakenRoom(t *testing.T) {
	d, _ := disk.New(64)
	s := opened(t, d, 2)
	for range 29 {
		one, two := s.Taken(), s.Taken()
		if !apart([]span{listSpan(one), listSpan(two)}) {
			t.Error("two lists share memory")
		}
		_ = append(one, 1)
		if _, e := s.Alloc(); e != api.OK {
			t.Fatal(e)
		}
	}
}
