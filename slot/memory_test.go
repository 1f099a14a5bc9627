package slot_test

import (
	"math/rand"
	"slices"
	"testing"
	"unsafe"

	"aumbry/api"
	"aumbry/slot"
)

// span is where something lies in memory, its spare room included.
type span struct{ from, to uintptr }

func textSpan(s string) span {
	from := uintptr(unsafe.Pointer(unsafe.StringData(s)))
	return span{from, from + uintptr(len(s))}
}

// bucketSpans are those of a bucket's list, its nodes' lists and their names.
func bucketSpans(b api.Bucket) []span {
	from := uintptr(unsafe.Pointer(unsafe.SliceData(b.Nodes)))
	spans := []span{{from, from + uintptr(cap(b.Nodes))*unsafe.Sizeof(api.Node{})}}
	for _, x := range b.Nodes[:cap(b.Nodes)] {
		from := uintptr(unsafe.Pointer(unsafe.SliceData(x.Kids)))
		spans = append(spans, textSpan(x.Name), span{from, from + uintptr(cap(x.Kids))*unsafe.Sizeof(api.Addr(0))})
	}
	return spans
}

// apart reports whether no two of the spans have memory in common.
func apart(spans []span) bool {
	spans = slices.DeleteFunc(slices.Clone(spans), func(s span) bool { return s.from == s.to })
	slices.SortFunc(spans, func(a, b span) int {
		if a.from < b.from {
			return -1
		}
		return 1
	})
	for i := 1; i < len(spans); i++ {
		if spans[i].from < spans[i-1].to {
			return false
		}
	}
	return true
}

// inks are texts whose bytes can be written over behind their backs, as those of texts can that lie in a buffer.
type inks struct{ all [][]byte }

func (k *inks) text(s string) string {
	b := append(make([]byte, 0, len(s)), s...)
	k.all = append(k.all, b)
	return unsafe.String(unsafe.SliceData(b), len(s))
}

func (k *inks) kids(l []api.Addr) []api.Addr {
	own := append(make([]api.Addr, 0, len(l)+2), l...)
	for i := len(own); i < cap(own); i++ {
		own[:cap(own)][i] = 77
	}
	return own
}

// bucket is b in memory that can be spoilt, with spare room behind its lists, which is filled.
func (k *inks) bucket(b api.Bucket) api.Bucket {
	own := make([]api.Node, 0, len(b.Nodes)+2)
	for _, x := range b.Nodes {
		x.Name, x.Kids = k.text(x.Name), k.kids(x.Kids)
		own = append(own, x)
	}
	for i := len(own); i < cap(own); i++ {
		own[:cap(own)][i] = api.Node{At: 7, Name: k.text("spare"), Kids: k.kids(nil)}
	}
	b.Nodes = own
	return b
}

func (k *inks) spoil(b api.Bucket) {
	for _, s := range k.all {
		for i := range s {
			s[i] = 'q'
		}
	}
	for _, x := range b.Nodes[:cap(b.Nodes)] {
		clear(x.Kids[:cap(x.Kids)])
	}
	clear(b.Nodes[:cap(b.Nodes)])
}

// whole reports whether two buckets are the same, spare room included.
func whole(a, b api.Bucket) bool {
	if !same(a, b) || cap(a.Nodes) != cap(b.Nodes) {
		return false
	}
	a.Nodes, b.Nodes = a.Nodes[:cap(a.Nodes)], b.Nodes[:cap(b.Nodes)]
	return same(a, b) && slices.EqualFunc(a.Nodes, b.Nodes, func(x, y api.Node) bool {
		return slices.Equal(x.Kids[:cap(x.Kids)], y.Kids[:cap(y.Kids)])
	})
}

// answers are all that the calls answer for a bucket and a page.
type answers struct {
	text   string
	bucket api.Bucket
}

func ask(b api.Bucket, page string) answers {
	var a answers
	a.text, _ = slot.Pack(b)
	a.bucket, _ = slot.Unpack(page)
	for _, x := range b.Nodes {
		slot.Hash(x.Name, x.Kids)
	}
	return a
}

func (a answers) spans() []span { return append(bucketSpans(a.bucket), textSpan(a.text)) }

// drawnCase is a bucket, as likely as not one that may be, and a page, both of which can be spoilt.
func drawnCase(r *rand.Rand, k *inks) (plain, b api.Bucket, page string) {
	plain = drawnBucket(r)
	if r.Intn(4) == 0 {
		plain = drawnWrong(r)
	}
	other, e := slot.Pack(plain)
	if e != api.OK || r.Intn(2) == 0 {
		other, _ = slot.Pack(drawnBucket(r))
	}
	return plain, k.bucket(plain), k.text(other)
}

// TestNewMemory: what is answered lies apart from what is handed in, from every other answer and within itself, the lists and the names (R4).
func TestNewMemory(t *testing.T) {
	r := rand.New(rand.NewSource(11))
	for range 3000 {
		var k inks
		_, b, page := drawnCase(r, &k)
		spans := append(bucketSpans(b), textSpan(page))
		one, two := ask(b, page), ask(b, page)
		if !apart(slices.Concat(spans, one.spans(), two.spans())) {
			t.Fatalf("of %v: answers share memory with what was handed in, or with each other", b)
		}
	}
}

// TestHandedInStays: no call changes what it is handed, spare room included; nor does one who writes over the answers (R4).
func TestHandedInStays(t *testing.T) {
	r := rand.New(rand.NewSource(12))
	for range 3000 {
		var k, other inks
		plain, b, page := drawnCase(r, &k)
		was, wasPage := other.bucket(plain), other.text(page)
		a := ask(b, page)
		(&inks{}).spoil(a.bucket)
		if !whole(b, was) || page != wasPage {
			t.Fatalf("%v, %q: changed", was, wasPage)
		}
	}
}

// TestAnswersStay: nothing of what is handed in is kept in an answer, and the same is answered again (R4, R5).
func TestAnswersStay(t *testing.T) {
	r := rand.New(rand.NewSource(13))
	for range 3000 {
		var k, other inks
		_, b, page := drawnCase(r, &k)
		a := ask(b, page)
		wasText, was := other.text(a.text), other.bucket(a.bucket)
		if again := ask(b, page); again.text != wasText || !same(again.bucket, was) {
			t.Fatalf("%v, %q: something else is answered", b, page)
		}
		k.spoil(b)
		if a.text != wasText || !same(a.bucket, was) {
			t.Fatal("an answer has changed")
		}
	}
}
