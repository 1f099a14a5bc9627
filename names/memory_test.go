package names_test

import (
	"fmt"
	"math/rand"
	"slices"
	"testing"
	"unsafe"

	"aumbry/api"
)

// span is where something lies in memory, its spare room included. As long as the span is there that isn't used again, for another answer perhaps.
type span struct {
	from, to uintptr
	kept     unsafe.Pointer
}

func spanAt(kept unsafe.Pointer, size uintptr) span {
	return span{uintptr(kept), uintptr(kept) + size, kept}
}

func listSpan[T any](l []T) span {
	var one T
	return spanAt(unsafe.Pointer(unsafe.SliceData(l)), uintptr(cap(l))*unsafe.Sizeof(one))
}

func textSpan(s string) span {
	return spanAt(unsafe.Pointer(unsafe.StringData(s)), uintptr(len(s)))
}

// spansOf are those of a list, and of the texts that all that it has room for tells.
func spansOf[T any](l []T, told func(T) string) []span {
	spans := []span{listSpan(l)}
	for _, x := range l[:cap(l)] {
		spans = append(spans, textSpan(told(x)))
	}
	return spans
}

func cellName(c api.Cell) string { return c.Name }

func symbolName(x api.Symbol) string { return x.Name }

func itself(s string) string { return s }

// apart reports whether no two of the spans have memory in common.
func apart(spans []span) bool {
	spans = slices.DeleteFunc(slices.Clone(spans), func(s span) bool { return s.from == s.to })
	slices.SortFunc(spans, func(a, b span) int {
		if a.from < b.from {
			return -1
		}
		return 1
	})
	for i := 1; i < len(spans); i++ {
		if spans[i].from < spans[i-1].to {
			return false
		}
	}
	return true
}

// inked is a name and a term in memory that can be written over behind their backs, as that of texts can that lie in a buffer; behind the term's cells there is spare room, which is filled.
type inked struct {
	name, plainName string
	term, plain     api.Term
	bytes           [][]byte
}

func (k *inked) text(s string) string {
	b := []byte(s)
	k.bytes = append(k.bytes, b)
	return unsafe.String(unsafe.SliceData(b), len(b))
}

func ink(name string, plain api.Term) *inked {
	k := &inked{plainName: name, plain: plain, term: make(api.Term, 0, len(plain)+3)}
	k.name = k.text(name)
	for _, c := range plain {
		k.term = append(k.term, api.Cell{Name: k.text(c.Name), Arity: c.Arity})
	}
	for i := len(k.term); i < cap(k.term); i++ {
		k.term[:cap(k.term)][i] = api.Cell{Name: "spare", Arity: 77}
	}
	return k
}

// stays reports whether it is still what it was made of.
func (k *inked) stays() bool {
	for _, c := range k.term[len(k.term):cap(k.term)] {
		if c != (api.Cell{Name: "spare", Arity: 77}) {
			return false
		}
	}
	return slices.Equal(k.term, k.plain) && k.name == k.plainName
}

func (k *inked) spoil() {
	for _, b := range k.bytes {
		for i := range b {
			b[i] = 'q'
		}
	}
	clear(k.term[:cap(k.term)])
}

// answers are what calls have answered.
type answers struct {
	term         api.Term
	symbols      []api.Symbol
	order, names []string
}

func (p *pair) answers(t *testing.T, name string) answers {
	t.Helper()
	var a answers
	var e api.Errno
	a.term, _, e = p.n.Get(name)
	want(t, e, api.OK)
	a.symbols, e = p.n.Symbols()
	want(t, e, api.OK)
	a.order, e = p.n.Order()
	want(t, e, api.OK)
	a.names, e = p.n.Names()
	want(t, e, api.OK)
	return a
}

func (a answers) spans() []span {
	return slices.Concat(spansOf(a.term, cellName), spansOf(a.symbols, symbolName), spansOf(a.order, itself), spansOf(a.names, itself))
}

// spoil writes over all that there is.
func (a answers) spoil() {
	spoil(a.term, cellName)
	spoil(a.symbols, symbolName)
	spoil(a.order, itself)
	spoil(a.names, itself)
}

func spoil[T any](l []T, told func(T) string) {
	for _, x := range l {
		s := told(x)
		clear(unsafe.Slice(unsafe.StringData(s), len(s)))
	}
	clear(l[:cap(l)])
}

// TestNewMemory: what is answered lies apart from what is handed in, from every other answer and within itself (R4).
func TestNewMemory(t *testing.T) {
	r := rand.New(rand.NewSource(9))
	p, l := begin(t, 900, 30), pools()["many"]
	p.declared(t, "a/0", "s/1")
	var spans []span
	for i := range 60 {
		k := ink(fmt.Sprintf("x%d", i%40), pool(p.m.declared).ground(r, 1+r.Intn(9)))
		want(t, p.n.Set(k.name, k.term), api.OK)
		want(t, p.m.set(t, k.plainName, k.plain), api.OK)
		spans = append(spans, textSpan(k.name))
		spans = append(spans, spansOf(k.term[:len(k.term):len(k.term)], cellName)...)
		spans = append(spans, p.answers(t, k.name).spans()...)
		x := l.some(r)
		own := ink(x.Name, nil)
		want(t, p.n.Declare(own.name, x.Arity), p.m.declare(t, x.Name, x.Arity))
		spans = append(spans, textSpan(own.name))
	}
	if !apart(spans) {
		t.Error("answers share memory with what was handed in, or with each other")
	}
}

// TestHandedIn: names and terms are neither changed, spare room included, nor kept as they are (R4).
func TestHandedIn(t *testing.T) {
	r := rand.New(rand.NewSource(10))
	p, l := begin(t, 900, 30), pools()["many"]
	p.declared(t, "a/0", "s/1")
	for i := range 300 {
		x := l.some(r)
		own := ink(x.Name, nil)
		want(t, p.n.Declare(own.name, x.Arity), p.m.declare(t, x.Name, x.Arity))
		k := ink(fmt.Sprintf("x%d", r.Intn(60)), pool(p.m.declared).ground(r, 1+r.Intn(9)))
		want(t, p.n.Set(k.name, k.term), api.OK)
		want(t, p.m.set(t, k.plainName, k.plain), api.OK)
		want(t, p.n.Fits(k.term), api.OK)
		p.n.Get(k.name)
		if i%3 == 0 {
			found, e := p.n.Forget(k.name)
			if !found || e != api.OK {
				t.Fatal(found, e)
			}
			p.m.forget(t, k.plainName)
		}
		if !k.stays() || !own.stays() {
			t.Fatal("what was handed in has changed")
		}
		k.spoil()
		own.spoil()
		if i%9 == 0 {
			p.commit(t)
			p.holdAll(t)
		}
	}
	p.holdAll(t)
}

// TestWrittenOver: nothing that is answered is the names' own, nor the space's, and none of it changes later (R4).
func TestWrittenOver(t *testing.T) {
	r := rand.New(rand.NewSource(11))
	p, l := begin(t, 900, 30), pools()["many"]
	p.declared(t, "a/0", "s/1")
	for range 100 {
		name := fmt.Sprintf("x%d", r.Intn(60))
		if there := p.m.names(); len(there) == 64 {
			name = there[r.Intn(64)]
		}
		x := pool(p.m.declared).ground(r, 1+r.Intn(9))
		want(t, p.setTerm(t, name, x), api.OK)
		a, k := p.answers(t, name), p.m.again()
		for range 3 {
			p.step(t, r, l, 20)
		}
		m := model{kept: k}
		if !slices.Equal(a.term, x) || !slices.Equal(a.symbols, m.sorted()) || !slices.Equal(a.order, m.order()) || !slices.Equal(a.names, m.names()) {
			t.Fatal("an answer has changed")
		}
		a.spoil()
		p.holdAll(t)
	}
}
