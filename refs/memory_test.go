package refs_test

import (
	"math/rand"
	"slices"
	"testing"
	"unsafe"

	"aumbry/api"
)

// span is where something lies in memory, its spare room included. As long as the span is there that isn't used again, for another answer perhaps.
type span struct {
	from, to uintptr
	kept     unsafe.Pointer
}

func spanAt(kept unsafe.Pointer, size uintptr) span {
	return span{uintptr(kept), uintptr(kept) + size, kept}
}

func listSpan[T any](l []T) span {
	var one T
	return spanAt(unsafe.Pointer(unsafe.SliceData(l)), uintptr(cap(l))*unsafe.Sizeof(one))
}

func termSpans(x api.Term) []span {
	l := []span{listSpan(x)}
	for _, c := range x {
		l = append(l, spanAt(unsafe.Pointer(unsafe.StringData(c.Name)), uintptr(len(c.Name))))
	}
	return l
}

// apart reports whether no two of the spans have memory in common.
func apart(spans []span) bool {
	spans = slices.DeleteFunc(slices.Clone(spans), func(s span) bool { return s.from == s.to })
	slices.SortFunc(spans, func(a, b span) int {
		if a.from < b.from {
			return -1
		}
		return 1
	})
	for i := 1; i < len(spans); i++ {
		if spans[i].from < spans[i-1].to {
			return false
		}
	}
	return true
}

// inked is a term in memory that can be written over behind its back, as that of a text can that lies in a buffer; behind its cells there is spare room, which is filled.
type inked struct {
	term  api.Term
	plain api.Term
	names [][]byte
}

func ink(plain api.Term) *inked {
	k := &inked{plain: plain, term: make(api.Term, 0, len(plain)+3)}
	for _, c := range plain {
		b := []byte(c.Name)
		k.names = append(k.names, b)
		k.term = append(k.term, api.Cell{Name: unsafe.String(unsafe.SliceData(b), len(b)), Arity: c.Arity})
	}
	for i := len(k.term); i < cap(k.term); i++ {
		k.term[:cap(k.term)][i] = api.Cell{Name: "spare", Arity: 77}
	}
	return k
}

// stays reports whether it is still what it was made of.
func (k *inked) stays() bool {
	for _, c := range k.term[len(k.term):cap(k.term)] {
		if c != (api.Cell{Name: "spare", Arity: 77}) {
			return false
		}
	}
	return slices.Equal(k.term, k.plain)
}

func (k *inked) spoil() {
	for _, b := range k.names {
		for i := range b {
			b[i] = 'q'
		}
	}
	clear(k.term[:cap(k.term)])
}

// TestNewMemory: what is answered lies apart from what is handed in, from every other answer and within itself (R4).
func TestNewMemory(t *testing.T) {
	r := rand.New(rand.NewSource(9))
	p := begin(t, 500, 30)
	var spans []span
	for range 60 {
		k := ink(read(t, drawn(r, 1+r.Intn(12), 9)))
		spans = append(spans, termSpans(k.term)...)
		a, e := p.r.Keep(k.term)
		want(t, e, api.OK)
		p.m.keep(t, k.plain)
		if r.Intn(2) == 0 {
			p.drop(t, a)
		}
		for range 2 {
			x, e := p.r.Load(a)
			want(t, e, api.OK)
			l, e := p.r.Waiting()
			want(t, e, api.OK)
			spans = append(append(spans, termSpans(x)...), listSpan(l))
		}
	}
	if !apart(spans) {
		t.Error("answers share memory with what was handed in, or with each other")
	}
}

// TestHandedIn: terms are neither changed, spare room included, nor kept as they are (R4).
func TestHandedIn(t *testing.T) {
	r := rand.New(rand.NewSource(10))
	p := begin(t, 900, 30)
	for i := range 300 {
		k := ink(read(t, drawn(r, 1+r.Intn(9), 9)))
		a, e := p.r.Keep(k.term)
		if a != p.m.keep(t, k.plain) || e != api.OK {
			t.Fatal(a, e)
		}
		if b, found, e := p.r.Has(k.term); b != a || !found || e != api.OK {
			t.Fatal(b, found, e)
		}
		if !k.stays() {
			t.Fatal("what was handed in has changed")
		}
		k.spoil()
		if i%9 == 0 {
			p.commit(t)
			p.drop(t, p.some(r))
			p.reclaim(t, 2)
		}
	}
	p.holdAll(t)
}

// TestWrittenOver: nothing that is answered is the terms' own, nor the space's, and none of it changes later (R4).
func TestWrittenOver(t *testing.T) {
	r := rand.New(rand.NewSource(11))
	p := begin(t, 900, 30)
	for range 120 {
		s := drawn(r, 1+r.Intn(9), 9)
		a := p.keep(t, s)
		if r.Intn(2) == 0 {
			p.drop(t, a)
		}
		x, e := p.r.Load(a)
		want(t, e, api.OK)
		l, e := p.r.Waiting()
		want(t, e, api.OK)
		waited := slices.Clone(p.m.queue)
		p.keep(t, drawn(r, 1+r.Intn(9), 9))
		p.drop(t, p.some(r))
		p.reclaim(t, 2)
		if text(x) != s || !slices.Equal(l, waited) {
			t.Fatal("an answer has changed")
		}
		for _, c := range x {
			clear(unsafe.Slice(unsafe.StringData(c.Name), len(c.Name)))
		}
		clear(x[:cap(x)])
		clear(l[:cap(l)])
		p.holdAll(t)
	}
}
