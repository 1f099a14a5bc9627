package tree_test

import (
	"math/rand"
	"slices"
	"strings"
	"testing"
	"unsafe"

	"aumbry/api"
)

// span is where something lies in memory, its spare room included.
type span struct{ from, to uintptr }

func textSpan(s string) span {
	from := uintptr(unsafe.Pointer(unsafe.StringData(s)))
	return span{from, from + uintptr(len(s))}
}

func numberSpan(l []int) span {
	from := uintptr(unsafe.Pointer(unsafe.SliceData(l)))
	return span{from, from + uintptr(cap(l))*unsafe.Sizeof(0)}
}

// listSpans are those of a list and of all texts in it, its spare room's too.
func listSpans(l []api.Entry) []span {
	from := uintptr(unsafe.Pointer(unsafe.SliceData(l)))
	spans := []span{{from, from + uintptr(cap(l))*unsafe.Sizeof(api.Entry{})}}
	for _, x := range l[:cap(l)] {
		spans = append(spans, textSpan(x.Key), textSpan(x.Value))
	}
	return spans
}

// apart reports whether no two of the spans have memory in common.
func apart(spans []span) bool {
	spans = slices.DeleteFunc(slices.Clone(spans), func(s span) bool { return s.from == s.to })
	slices.SortFunc(spans, func(a, b span) int {
		if a.from < b.from {
			return -1
		}
		return 1
	})
	for i := 1; i < len(spans); i++ {
		if spans[i].from < spans[i-1].to {
			return false
		}
	}
	return true
}

// ink is a text with the bytes under it, which can be written over behind its back, as those of a text can that lies in a buffer.
func ink(s string) (string, []byte) {
	b := []byte(s)
	return unsafe.String(unsafe.SliceData(b), len(b)), b
}

// TestNewMemory: what is answered lies apart from what is handed in and from every other answer (R4).
func TestNewMemory(t *testing.T) {
	r := rand.New(rand.NewSource(9))
	p := begin(t, 300, 30)
	// All are kept, so that none of their memory is used again.
	var spans []span
	var texts []string
	var lists [][]api.Entry
	var numbers [][]int
	for range 150 {
		key, value := strings.Clone(keys[0](r)), strings.Repeat("v", 1+r.Intn(64))
		p.put(t, key, value)
		texts = append(texts, key, value)
		v, _, e := p.x.Get(key)
		want(t, e, api.OK)
		texts = append(texts, v)
		for range 2 {
			l, e := p.x.List(keys[0](r), r.Intn(20))
			want(t, e, api.OK)
			lists = append(lists, l)
			n, e := p.x.Pages()
			want(t, e, api.OK)
			numbers = append(numbers, n)
		}
	}
	for _, s := range texts {
		spans = append(spans, textSpan(s))
	}
	for _, l := range lists {
		spans = append(spans, listSpans(l)...)
	}
	for _, l := range numbers {
		spans = append(spans, numberSpan(l))
	}
	if !apart(spans) {
		t.Error("answers share memory with what was handed in, or with each other")
	}
}

// TestHandedIn: keys and values are neither changed nor kept as they are (R4).
func TestHandedIn(t *testing.T) {
	r := rand.New(rand.NewSource(10))
	p := begin(t, 600, 30)
	for i := range 500 {
		plainKey, plainValue := keys[i%6](r), strings.Repeat(string([]byte{byte(i)}), r.Intn(65))
		key, b := ink(plainKey)
		value, c := ink(plainValue)
		if r.Intn(4) == 0 {
			if _, e := p.x.Delete(key); e != api.OK {
				t.Fatal(e)
			}
			delete(p.m, plainKey)
		} else {
			want(t, p.x.Put(key, value), api.OK)
			p.m[plainKey] = plainValue
		}
		p.x.Get(key)
		p.x.List(key, 2)
		if key != plainKey || value != plainValue {
			t.Fatal("what was handed in has changed")
		}
		for i := range b {
			b[i] = 'q'
		}
		for i := range c {
			c[i] = 'q'
		}
		if i%9 == 0 {
			want(t, p.s.Commit(), api.OK)
		}
	}
	if now := look(t, p.s, p.root); !slices.Equal(now.entries, p.sorted()) {
		t.Error("what was handed in is kept as it is")
	}
}

// TestWrittenOver: nothing that is answered is the tree's own, nor the space's, and none of it changes later (R4).
func TestWrittenOver(t *testing.T) {
	r := rand.New(rand.NewSource(11))
	p := begin(t, 1200, 30)
	for range 200 {
		p.put(t, keys[0](r), strings.Repeat("v", 1+r.Intn(64)))
		all, wantAll := mustList(t, p), p.sorted()
		numbers, e := p.x.Pages()
		want(t, e, api.OK)
		for range 3 {
			p.put(t, keys[0](r), strings.Repeat("w", r.Intn(65)))
		}
		if !slices.Equal(all, wantAll) {
			t.Fatal("an answer has changed")
		}
		spoil(all, numbers)
		v, _, e := p.x.Get(p.sorted()[0].Key)
		want(t, e, api.OK)
		clear(unsafe.Slice(unsafe.StringData(v), len(v)))
		if !slices.Equal(mustList(t, p), p.sorted()) {
			t.Fatal("an answer is the tree's own")
		}
	}
	p.hold(t)
}

func mustList(t *testing.T, p *pair) []api.Entry {
	t.Helper()
	l, e := p.x.List("", 9999)
	want(t, e, api.OK)
	return l
}

// spoil writes over all that there is of two answers.
func spoil(l []api.Entry, numbers []int) {
	for _, x := range l {
		clear(unsafe.Slice(unsafe.StringData(x.Key), len(x.Key)))
		clear(unsafe.Slice(unsafe.StringData(x.Value), len(x.Value)))
	}
	clear(l[:cap(l)])
	clear(numbers[:cap(numbers)])
}
