package nodes_test

import (
	"math/rand"
	"slices"
	"testing"
	"unsafe"

	"aumbry/api"
)

// span is where something lies in memory, its spare room included.
type span struct{ from, to uintptr }

func textSpan(s string) span {
	from := uintptr(unsafe.Pointer(unsafe.StringData(s)))
	return span{from, from + uintptr(len(s))}
}

func spanOf[T any](l []T) span {
	var x T
	from := uintptr(unsafe.Pointer(unsafe.SliceData(l)))
	return span{from, from + uintptr(cap(l))*unsafe.Sizeof(x)}
}

// nodeSpans are those of a node's name and of its kids.
func nodeSpans(x api.Node) []span { return []span{textSpan(x.Name), spanOf(x.Kids)} }

// apart reports whether no two of the spans have memory in common.
func apart(spans []span) bool {
	spans = slices.DeleteFunc(slices.Clone(spans), func(s span) bool { return s.from == s.to })
	slices.SortFunc(spans, func(a, b span) int {
		if a.from < b.from {
			return -1
		}
		return 1
	})
	for i := 1; i < len(spans); i++ {
		if spans[i].from < spans[i-1].to {
			return false
		}
	}
	return true
}

// inked is c in memory that can be written over behind its back, as that of a text can that lies in a buffer; behind its kids there is spare room, which is filled.
func inked(c content) (content, func()) {
	b := []byte(c.name)
	kids := append(make([]api.Addr, 0, len(c.kids)+3), c.kids...)
	for i := len(kids); i < cap(kids); i++ {
		kids[:cap(kids)][i] = 77
	}
	return content{unsafe.String(unsafe.SliceData(b), len(b)), kids}, func() {
		for i := range b {
			b[i] = 'q'
		}
		clear(kids[:cap(kids)])
	}
}

// isInked reports whether what inked has made of a content is still that.
func isInked(got, plain content) bool {
	for _, a := range got.kids[len(got.kids):cap(got.kids)] {
		if a != 77 {
			return false
		}
	}
	return got.name == plain.name && slices.Equal(got.kids, plain.kids)
}

// TestNewMemory: what is answered lies apart from what is handed in, from every other answer and within itself (R4).
func TestNewMemory(t *testing.T) {
	r := rand.New(rand.NewSource(9))
	p := begin(t, 300, 30)
	var spans []span
	// All are kept, so that none of their memory is used again.
	var handed []content
	var answers [][]api.Node
	var numbers [][]int
	for _, plain := range spread(r, 120) {
		c, _ := inked(plain)
		handed = append(handed, c)
		a := p.add(t, c)
		want(t, p.set(t, api.Node{At: a, Name: c.name, Kids: c.kids, Count: 1}), api.OK)
		x, _, e := p.n.Get(a)
		want(t, e, api.OK)
		y, _, e := p.n.Get(a)
		want(t, e, api.OK)
		l, e := p.n.List()
		want(t, e, api.OK)
		answers = append(answers, []api.Node{x, y}, l)
		n, e := p.n.Pages()
		want(t, e, api.OK)
		numbers = append(numbers, n)
	}
	for _, c := range handed {
		spans = append(spans, textSpan(c.name), spanOf(c.kids))
	}
	for _, l := range answers {
		spans = append(spans, spanOf(l))
		for _, x := range l[:cap(l)] {
			spans = append(spans, nodeSpans(x)...)
		}
	}
	for _, l := range numbers {
		spans = append(spans, spanOf(l))
	}
	if !apart(spans) {
		t.Error("answers share memory with what was handed in, or with each other")
	}
}

// TestHandedIn: names and kids are neither changed, spare room included, nor kept as they are (R4).
func TestHandedIn(t *testing.T) {
	r := rand.New(rand.NewSource(10))
	p := begin(t, 600, 30)
	contents := spread(r, 200)
	for i := range 600 {
		plain := contents[r.Intn(len(contents))]
		c, spoil := inked(plain)
		a, _, e := p.n.Add(c.name, c.kids)
		if wantA, _ := p.m.add(plain); a != wantA || e != api.OK {
			t.Fatal(a, e)
		}
		p.n.Find(c.name, c.kids)
		x := api.Node{At: a, Name: c.name, Kids: c.kids, Count: i, Next: a}
		want(t, p.n.Set(x), api.OK)
		p.m.set(api.Node{At: a, Name: plain.name, Kids: plain.kids, Count: i, Next: a})
		if r.Intn(3) == 0 {
			p.remove(t, a)
		}
		if !isInked(c, plain) {
			t.Fatal("what was handed in has changed")
		}
		spoil()
		if i%9 == 0 {
			want(t, p.s.Commit(), api.OK)
		}
	}
	p.hold(t)
}

// TestWrittenOver: nothing that is answered is the file's own, nor the space's, and none of it changes later (R4).
func TestWrittenOver(t *testing.T) {
	r := rand.New(rand.NewSource(11))
	p := begin(t, 600, 30)
	contents := spread(r, 300)
	for i := range 150 {
		a := p.add(t, contents[i])
		x, _, e := p.n.Get(a)
		want(t, e, api.OK)
		l, e := p.n.List()
		want(t, e, api.OK)
		numbers, e := p.n.Pages()
		want(t, e, api.OK)
		wasX, wasL, wasNumbers := api.Node{At: a, Name: contents[i].name, Kids: contents[i].kids}, p.m.clone().all(), slices.Clone(numbers)
		p.set(t, api.Node{At: a, Name: contents[i].name, Kids: contents[i].kids, Count: 5, Queued: true})
		p.add(t, contents[150+i])
		p.remove(t, p.some(r))
		if !same(x, wasX) || !allSame(l, wasL) || !slices.Equal(numbers, wasNumbers) {
			t.Fatal("an answer has changed")
		}
		for _, y := range append(l, x) {
			clear(unsafe.Slice(unsafe.StringData(y.Name), len(y.Name)))
			clear(y.Kids[:cap(y.Kids)])
		}
		clear(l[:cap(l)])
		clear(numbers[:cap(numbers)])
		p.hold(t)
	}
}
