package leaf_test

import (
	"math/rand"
	"slices"
	"testing"
	"unsafe"

	"aumbry/api"
	"aumbry/leaf"
)

// span is where something lies in memory, its spare room included.
type span struct{ from, to uintptr }

func textSpan(s string) span {
	from := uintptr(unsafe.Pointer(unsafe.StringData(s)))
	return span{from, from + uintptr(len(s))}
}

// listSpans are those of a list and of all texts in it.
func listSpans(l []api.Entry) []span {
	from := uintptr(unsafe.Pointer(unsafe.SliceData(l)))
	spans := []span{{from, from + uintptr(cap(l))*unsafe.Sizeof(api.Entry{})}}
	for _, x := range l[:cap(l)] {
		spans = append(spans, textSpan(x.Key), textSpan(x.Value))
	}
	return spans
}

// apart reports whether no two of the spans have memory in common.
func apart(spans []span) bool {
	spans = slices.DeleteFunc(slices.Clone(spans), func(s span) bool { return s.from == s.to })
	slices.SortFunc(spans, func(a, b span) int {
		if a.from < b.from {
			return -1
		}
		return 1
	})
	for i := 1; i < len(spans); i++ {
		if spans[i].from < spans[i-1].to {
			return false
		}
	}
	return true
}

// inks are texts whose bytes can be written over behind their backs, as those of texts can that lie in a buffer.
type inks struct{ all [][]byte }

func (k *inks) text(s string) string {
	b := append(make([]byte, 0, len(s)), s...)
	k.all = append(k.all, b)
	return unsafe.String(unsafe.SliceData(b), len(s))
}

// list are these entries with spare room behind them, which is filled.
func (k *inks) list(l []api.Entry) []api.Entry {
	own := make([]api.Entry, 0, len(l)+3)
	for _, x := range l {
		own = append(own, api.Entry{Key: k.text(x.Key), Value: k.text(x.Value)})
	}
	for i := len(own); i < cap(own); i++ {
		own[:cap(own)][i] = api.Entry{Key: k.text("spare"), Value: k.text("room")}
	}
	return own
}

func (k *inks) spoil() {
	for _, b := range k.all {
		for i := range b {
			b[i] = 'q'
		}
	}
}

// answers are all that the calls answer for a list, a key and a value.
type answers struct {
	lists [][]api.Entry
	texts []string
}

func (a *answers) add(lists ...[]api.Entry) { a.lists = append(a.lists, lists...) }

func ask(l []api.Entry, key, value, page string) *answers {
	var a answers
	s, _ := leaf.Pack(leaf.Branch, l)
	a.texts = append(a.texts, s)
	_, m, _ := leaf.Unpack(page)
	a.add(m, leaf.Put(l, key, value))
	m, _ = leaf.Take(l, key)
	a.add(m)
	if len(l) > 0 {
		m, _ = leaf.Take(l, l[len(l)-1].Key)
		a.add(m, leaf.Put(l, l[0].Key, value))
	}
	x, y := leaf.Cut(l)
	a.add(x, y)
	leaf.Find(l, key)
	leaf.Size(l)
	return &a
}

func (a *answers) spans() []span {
	var spans []span
	for _, s := range a.texts {
		spans = append(spans, textSpan(s))
	}
	for _, l := range a.lists {
		spans = append(spans, listSpans(l)...)
	}
	return spans
}

// again are the same answers in other memory.
func (a *answers) again() *answers {
	var k inks
	var b answers
	for _, s := range a.texts {
		b.texts = append(b.texts, k.text(s))
	}
	for _, l := range a.lists {
		b.add(k.list(l))
	}
	return &b
}

func (a *answers) are(b *answers) bool {
	return slices.Equal(a.texts, b.texts) && slices.EqualFunc(a.lists, b.lists, same)
}

// drawnCase is a list, a key, a value and a page, all of which can be spoilt; the list is also told as it was, with its spare room.
func drawnCase(r *rand.Rand, k *inks) (l, was []api.Entry, key, value, page string) {
	plain := drawnList(r, r.Intn(8))
	if r.Intn(6) == 0 {
		plain = drawnWrong(r)
	}
	// The shortest lists are where it would be easiest to hand on what was handed in.
	if r.Intn(3) == 0 {
		plain = plain[:min(len(plain), r.Intn(3))]
	}
	page, _ = leaf.Pack(leaf.Leaf, drawnList(r, r.Intn(6)))
	var other inks
	return k.list(plain), other.list(plain), k.text(drawnText(r, r.Intn(4))), k.text(drawnText(r, r.Intn(65))), k.text(page)
}

// TestNewMemory: what is answered lies apart from what is handed in, from every other answer and within itself, the lists and their texts (R4).
func TestNewMemory(t *testing.T) {
	r := rand.New(rand.NewSource(6))
	for range 3000 {
		var k inks
		l, _, key, value, page := drawnCase(r, &k)
		spans := append(listSpans(l), textSpan(key), textSpan(value), textSpan(page))
		one, two := ask(l, key, value, page), ask(l, key, value, page)
		if !apart(slices.Concat(spans, one.spans(), two.spans())) {
			t.Fatalf("of %q, %q: answers share memory with what was handed in, or with each other", l, key)
		}
	}
}

// TestHandedInStays: no call changes what it is handed, spare room included (R4).
func TestHandedInStays(t *testing.T) {
	r := rand.New(rand.NewSource(7))
	for range 3000 {
		var k inks
		l, was, key, value, page := drawnCase(r, &k)
		var other inks
		wasKey, wasValue, wasPage := other.text(key), other.text(value), other.text(page)
		a := ask(l, key, value, page)
		for _, m := range a.lists {
			_ = append(m, api.Entry{Key: "behind"})
			for i := range m[:cap(m)] {
				m[:cap(m)][i] = api.Entry{Key: "over", Value: "over"}
			}
		}
		if !slices.Equal(l[:cap(l)], was[:cap(was)]) || key != wasKey || value != wasValue || page != wasPage {
			t.Fatalf("%q, %q, %q: changed", was, wasKey, wasValue)
		}
	}
}

// TestAnswersStay: nothing of what is handed in is kept in an answer, and the same is answered again (R4, R5).
func TestAnswersStay(t *testing.T) {
	r := rand.New(rand.NewSource(8))
	for range 3000 {
		var k inks
		l, _, key, value, page := drawnCase(r, &k)
		a := ask(l, key, value, page)
		was := a.again()
		if !ask(l, key, value, page).are(was) {
			t.Fatalf("%q, %q: something else is answered", l, key)
		}
		k.spoil()
		clear(l[:cap(l)])
		if !a.are(was) {
			t.Fatal("an answer has changed")
		}
	}
}
