package book_test

import (
	"math/rand"
	"slices"
	"testing"
	"unsafe"

	"aumbry/api"
)

// span is where something lies in memory, its spare room included. As long as the span is there that isn't used again, for another answer perhaps.
type span struct {
	from, to uintptr
	kept     unsafe.Pointer
}

func spanAt(kept unsafe.Pointer, size uintptr) span {
	return span{uintptr(kept), uintptr(kept) + size, kept}
}

func listSpan[T any](l []T) span {
	var one T
	return spanAt(unsafe.Pointer(unsafe.SliceData(l)), uintptr(cap(l))*unsafe.Sizeof(one))
}

func textSpan(s string) span {
	return spanAt(unsafe.Pointer(unsafe.StringData(s)), uintptr(len(s)))
}

// termSpans are those of a term, and of the texts of all that it has room for.
func termSpans(x api.Term) []span {
	spans := []span{listSpan(x)}
	for _, c := range x[:cap(x)] {
		spans = append(spans, textSpan(c.Name))
	}
	return spans
}

func ruleSpans(x api.Rule) []span { return slices.Concat(termSpans(x.Left), termSpans(x.Right)) }

// rulesSpans are those of a list, and of all the rules that it has room for.
func rulesSpans(l []api.Rule) []span {
	spans := []span{listSpan(l)}
	for _, x := range l[:cap(l)] {
		spans = append(spans, ruleSpans(x)...)
	}
	return spans
}

// apart reports whether no two of the spans have memory in common.
func apart(spans []span) bool {
	spans = slices.DeleteFunc(slices.Clone(spans), func(s span) bool { return s.from == s.to })
	slices.SortFunc(spans, func(a, b span) int {
		if a.from < b.from {
			return -1
		}
		return 1
	})
	for i := 1; i < len(spans); i++ {
		if spans[i].from < spans[i-1].to {
			return false
		}
	}
	return true
}

// inked is a rule in memory that can be written over behind its back, as that of texts can that lie in a buffer; behind its cells there is spare room, which is filled.
type inked struct {
	rule, plain api.Rule
	bytes       [][]byte
}

var spareCell = api.Cell{Name: "spare", Arity: 77}

func (k *inked) term(plain api.Term) api.Term {
	t := make(api.Term, 0, len(plain)+3)
	for _, c := range plain {
		b := []byte(c.Name)
		k.bytes = append(k.bytes, b)
		t = append(t, api.Cell{Name: unsafe.String(unsafe.SliceData(b), len(b)), Arity: c.Arity})
	}
	for i := len(t); i < cap(t); i++ {
		t[:cap(t)][i] = spareCell
	}
	return t
}

func ink(plain api.Rule) *inked {
	k := &inked{plain: plain}
	k.rule = api.Rule{ID: plain.ID, Left: k.term(plain.Left), Right: k.term(plain.Right)}
	return k
}

// stays reports whether it is still what it was made of.
func (k *inked) stays() bool {
	for _, side := range []api.Term{k.rule.Left, k.rule.Right} {
		for _, c := range side[len(side):cap(side)] {
			if c != spareCell {
				return false
			}
		}
	}
	return alike(k.rule, k.plain)
}

func (k *inked) spoil() {
	for _, b := range k.bytes {
		for i := range b {
			b[i] = 'q'
		}
	}
	clear(k.rule.Left[:cap(k.rule.Left)])
	clear(k.rule.Right[:cap(k.rule.Right)])
}

// spans are those of what was handed in, but the spare room, whose texts are one.
func (k *inked) spans() []span {
	return slices.Concat(termSpans(slices.Clip(k.rule.Left)), termSpans(slices.Clip(k.rule.Right)))
}

// spoilRule writes over all that there is of a rule that was answered.
func spoilRule(x api.Rule) {
	for _, side := range []api.Term{x.Left, x.Right} {
		for _, c := range side {
			clear(unsafe.Slice(unsafe.StringData(c.Name), len(c.Name)))
		}
		clear(side[:cap(side)])
	}
}

// list asks for the rules.
func (p *pair) list(t *testing.T) []api.Rule {
	t.Helper()
	l, e := p.b.List()
	want(t, e, api.OK)
	return l
}

// TestNewMemory: what is answered lies apart from what is handed in, from every other answer and within itself (R4).
func TestNewMemory(t *testing.T) {
	r := rand.New(rand.NewSource(9))
	p, l := begin(t, 900, 30), pools()["many"]
	var spans []span
	for range 60 {
		k := ink(l.rule(r))
		id, e := p.b.Add(k.rule)
		if w, f := p.m.add(t, k.plain); id != w || e != f {
			t.Fatal(id, e, w, f)
		}
		spans = append(spans, k.spans()...)
		spans = append(spans, rulesSpans(p.list(t))...)
		if r.Intn(2) > 0 {
			continue
		}
		spans = append(spans, rulesSpans(p.list(t))...)
		gone := p.someID(r)
		x, found, e := p.b.Remove(gone)
		want(t, e, api.OK)
		if y, there := p.m.remove(t, gone); !alike(x, y) || found != there {
			t.Fatal(told(x), found)
		}
		spans = append(spans, ruleSpans(x)...)
	}
	if !apart(spans) {
		t.Error("answers share memory with what was handed in, or with each other")
	}
}

// TestHandedIn: rules are neither changed, spare room included, nor kept as they are (R4).
func TestHandedIn(t *testing.T) {
	r := rand.New(rand.NewSource(10))
	p, l := begin(t, 900, 30), pools()["many"]
	for i := range 200 {
		k := ink(l.any(r))
		id, e := p.b.Add(k.rule)
		if w, f := p.m.add(t, k.plain); id != w || e != f {
			t.Fatal(id, e, w, f)
		}
		if !k.stays() {
			t.Fatal("what was handed in has changed")
		}
		k.spoil()
		if i%2 == 0 {
			p.remove(t, p.someID(r))
		}
		if i%9 == 0 {
			p.commit(t)
			p.holdAll(t)
		}
	}
	p.holdAll(t)
}

// TestWrittenOver: nothing that is answered is the book's own, nor the space's, and none of it changes later (R4).
func TestWrittenOver(t *testing.T) {
	r := rand.New(rand.NewSource(11))
	p, l := begin(t, 900, 30), pools()["many"]
	for range 100 {
		p.addRule(t, l.rule(r))
		all, k := p.list(t), p.m.again()
		gone := p.m.rules[r.Intn(len(p.m.rules))]
		x, _, e := p.b.Remove(gone.ID)
		want(t, e, api.OK)
		p.m.remove(t, gone.ID)
		for range 3 {
			p.step(t, r, l, 20)
		}
		if !slices.EqualFunc(all, k.rules, alike) || !alike(x, gone) {
			t.Fatal("an answer has changed")
		}
		for _, y := range all {
			spoilRule(y)
		}
		clear(all[:cap(all)])
		spoilRule(x)
		p.holdAll(t)
	}
}
