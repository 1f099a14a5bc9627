package leaf_test

import (
	"bytes"
	"fmt"
	"math/rand"
	"slices"
	"strings"
	"testing"

	"aumbry/api"
	"aumbry/leaf"
)

// The models work all out one by one, by other ways than the package: by bytes, by tries, and without halving.

func modelSize(l []api.Entry) int {
	var b bytes.Buffer
	b.WriteString("kn")
	for _, x := range l {
		fmt.Fprint(&b, "k", x.Key, "v", x.Value)
	}
	return b.Len()
}

func modelPack(kind int, l []api.Entry) (string, api.Errno) {
	if kind < 1 || kind > 2 {
		return "", api.ErrRange
	}
	for i, x := range l {
		switch {
		case len(x.Key) > 32, len(x.Value) > 64:
			return "", api.ErrLong
		case i > 0 && bytes.Compare([]byte(l[i-1].Key), []byte(x.Key)) >= 0:
			return "", api.ErrOrder
		}
	}
	if modelSize(l) > 256 {
		return "", api.ErrFull
	}
	page := make([]byte, 256)
	page[0], page[1] = byte(kind), byte(len(l))
	at := 2
	for _, x := range l {
		for _, s := range []string{x.Key, x.Value} {
			page[at] = byte(len(s))
			at += 1 + copy(page[at+1:], s)
		}
	}
	return string(page), api.OK
}

// modelUnpack goes by the words of what a page is, one after the other.
func modelUnpack(s string) (int, []api.Entry, api.Errno) {
	if len(s) != 256 || s[0] != 1 && s[0] != 2 {
		return 0, nil, api.ErrForm
	}
	var l []api.Entry
	at := 2
	for i := 0; i < int(s[1]); i++ {
		var texts []string
		for _, most := range []int{32, 64} {
			if at >= 256 || int(s[at]) > most || at+1+int(s[at]) > 256 {
				return 0, nil, api.ErrForm
			}
			texts = append(texts, s[at+1:at+1+int(s[at])])
			at += 1 + int(s[at])
		}
		if i > 0 && texts[0] <= l[i-1].Key {
			return 0, nil, api.ErrForm
		}
		l = append(l, api.Entry{Key: texts[0], Value: texts[1]})
	}
	if strings.Trim(s[at:], "\x00") != "" {
		return 0, nil, api.ErrForm
	}
	return int(s[0]), l, api.OK
}

func modelFind(l []api.Entry, key string) (int, bool) {
	n := 0
	for _, x := range l {
		if x.Key == key {
			return n, true
		}
		if x.Key < key {
			n++
		}
	}
	return n, false
}

func modelPut(l []api.Entry, key, value string) []api.Entry {
	m, _ := modelTake(l, key)
	m = append(m, api.Entry{Key: key, Value: value})
	slices.SortFunc(m, func(a, b api.Entry) int { return bytes.Compare([]byte(a.Key), []byte(b.Key)) })
	return m
}

func modelTake(l []api.Entry, key string) ([]api.Entry, bool) {
	var m []api.Entry
	for _, x := range l {
		if x.Key != key {
			m = append(m, x)
		}
	}
	return m, len(m) < len(l)
}

// modelCut tries all places, from the last one on.
func modelCut(l []api.Entry) int {
	at, least := len(l), 0
	for i := len(l) - 1; i > 0; i-- {
		if n := max(modelSize(l[:i]), modelSize(l[i:])); at == len(l) || n <= least {
			at, least = i, n
		}
	}
	return at
}

// drawnText has n bytes of a few that are near each other or at the ends, so that texts begin one another.
func drawnText(r *rand.Rand, n int) string {
	b := make([]byte, n)
	for i := range b {
		b[i] = "\x00\x00a\xffb\x80\x7f"[r.Intn(7)]
	}
	return string(b)
}

// drawnList is a list that is right, of about n entries.
func drawnList(r *rand.Rand, n int) []api.Entry {
	most, value := 1+r.Intn(32), r.Intn(65)
	var l []api.Entry
	for range n {
		l = append(l, api.Entry{Key: drawnText(r, r.Intn(most+1)), Value: drawnText(r, r.Intn(value+1))})
	}
	slices.SortFunc(l, func(a, b api.Entry) int { return strings.Compare(a.Key, b.Key) })
	return slices.CompactFunc(l, func(a, b api.Entry) bool { return a.Key == b.Key })
}

// drawnWrong is any list, most often one that isn't right.
func drawnWrong(r *rand.Rand) []api.Entry {
	l := drawnList(r, r.Intn(20))
	for range r.Intn(3) {
		l = append(l, api.Entry{Key: drawnText(r, []int{0, 1, 31, 32, 33, 300}[r.Intn(6)]), Value: drawnText(r, []int{0, 63, 64, 65, 300}[r.Intn(5)])})
	}
	r.Shuffle(len(l)*r.Intn(2), func(i, j int) { l[i], l[j] = l[j], l[i] })
	return l
}

// keysFor are keys that are in l, and some beside each of them.
func keysFor(r *rand.Rand, l []api.Entry) []string {
	keys := []string{"", "\x00", "a", "\xff", strings.Repeat("\xff", 32), strings.Repeat("\xff", 33), drawnText(r, r.Intn(5))}
	for _, x := range l {
		keys = append(keys, x.Key, x.Key+"\x00", x.Key+"\xff")
		if n := len(x.Key); n > 0 {
			keys = append(keys, x.Key[:n-1], x.Key[:n-1]+string([]byte{x.Key[n-1] - 1}), x.Key[:n-1]+string([]byte{x.Key[n-1] + 1}))
		}
	}
	return keys
}

// same holds lists against each other; nil and empty are one (R3).
func same(a, b []api.Entry) bool { return slices.Equal(a, b) }

func holdPack(t *testing.T, kind int, l []api.Entry) api.Errno {
	t.Helper()
	page, e := leaf.Pack(kind, l)
	if wantPage, wantE := modelPack(kind, l); page != wantPage || e != wantE {
		t.Fatalf("Pack(%d, %q) = %q, %v; want %q, %v", kind, l, page, e, wantPage, wantE)
	}
	return e
}

func holdUnpack(t *testing.T, s string) api.Errno {
	t.Helper()
	kind, l, e := leaf.Unpack(s)
	if wantKind, wantL, wantE := modelUnpack(s); kind != wantKind || !same(l, wantL) || e != wantE {
		t.Fatalf("Unpack(%q) = %d, %q, %v; want %d, %q, %v", s, kind, l, e, wantKind, wantL, wantE)
	}
	if e != api.OK {
		return e
	}
	if again, e := leaf.Pack(kind, l); again != s || e != api.OK {
		t.Fatalf("Pack of Unpack of %q = %q, %v", s, again, e)
	}
	return api.OK
}

func holdSize(t *testing.T, l []api.Entry) {
	t.Helper()
	if n, want := leaf.Size(l), modelSize(l); n != want {
		t.Fatalf("Size(%q) = %d, want %d", l, n, want)
	}
}

// holdKey holds what is done by a key.
func holdKey(t *testing.T, l []api.Entry, key, value string) {
	t.Helper()
	at, ok := leaf.Find(l, key)
	if wantAt, wantOK := modelFind(l, key); at != wantAt || ok != wantOK {
		t.Fatalf("Find(%q, %q) = %d, %v; want %d, %v", l, key, at, ok, wantAt, wantOK)
	}
	if m, want := leaf.Put(l, key, value), modelPut(l, key, value); !same(m, want) {
		t.Fatalf("Put(%q, %q, %q) = %q, want %q", l, key, value, m, want)
	}
	m, ok := leaf.Take(l, key)
	if want, wantOK := modelTake(l, key); !same(m, want) || ok != wantOK {
		t.Fatalf("Take(%q, %q) = %q, %v; want %q, %v", l, key, m, ok, want, wantOK)
	}
}

func holdCut(t *testing.T, l []api.Entry) {
	t.Helper()
	a, b := leaf.Cut(l)
	if at := modelCut(l); !same(a, l[:at]) || !same(b, l[at:]) {
		t.Fatalf("Cut(%q) = %q, %q; want it at %d", l, a, b, at)
	}
}

// TestDrawnLists: lists that are right, from none to many entries, held against the models (P13.1 to P13.4).
func TestDrawnLists(t *testing.T) {
	r := rand.New(rand.NewSource(1))
	met := map[api.Errno]int{}
	for range 4000 {
		l := drawnList(r, r.Intn(1+r.Intn(40)))
		holdSize(t, l)
		holdCut(t, l)
		for _, key := range keysFor(r, l) {
			holdKey(t, l, key, drawnText(r, r.Intn(65)))
		}
		kind := 1 + r.Intn(2)
		e := holdPack(t, kind, l)
		met[e]++
		if e != api.OK {
			continue
		}
		page, _ := leaf.Pack(kind, l)
		if k, m, e := leaf.Unpack(page); k != kind || !same(m, l) || e != api.OK {
			t.Fatalf("Unpack of Pack of %d, %q = %d, %q, %v", kind, l, k, m, e)
		}
	}
	if met[api.OK] < 500 || met[api.ErrFull] < 500 {
		t.Errorf("met too seldom: %v", met)
	}
}

// TestWrongLists: lists that aren't right are packed as their first fault says; the other calls end (R1).
func TestWrongLists(t *testing.T) {
	r := rand.New(rand.NewSource(2))
	met := map[api.Errno]int{}
	for range 20000 {
		l := drawnWrong(r)
		holdSize(t, l)
		met[holdPack(t, r.Intn(5)-1, l)]++
		key := drawnText(r, r.Intn(40))
		leaf.Find(l, key)
		leaf.Put(l, key, key)
		leaf.Take(l, key)
		leaf.Cut(l)
	}
	for _, e := range []api.Errno{api.OK, api.ErrRange, api.ErrLong, api.ErrOrder, api.ErrFull} {
		if met[e] < 200 {
			t.Errorf("%v was met %d times only", e, met[e])
		}
	}
}

// TestChangedPages: pages of which any byte is another one (P13.1, P13.4).
func TestChangedPages(t *testing.T) {
	r := rand.New(rand.NewSource(3))
	met := map[api.Errno]int{}
	for range 60 {
		page, e := leaf.Pack(1+r.Intn(2), drawnList(r, r.Intn(9)))
		if e != api.OK {
			continue
		}
		for at := range 256 {
			for _, b := range []byte{0, 1, 2, 3, 31, 32, 33, 63, 64, 65, 97, 127, 128, 255, page[at] - 1, page[at] + 1} {
				met[holdUnpack(t, page[:at]+string([]byte{b})+page[at+1:])]++
			}
			met[holdUnpack(t, page[:at])]++
			met[holdUnpack(t, page[:at]+page[at+1:]+"\x00")]++
			met[holdUnpack(t, (page[:at] + "\x00" + page[at:])[:256])]++
		}
		met[holdUnpack(t, page+"\x00")]++
		met[holdUnpack(t, page+page)]++
	}
	if met[api.OK] < 1000 || met[api.ErrForm] < 1000 {
		t.Errorf("met too seldom: %v", met)
	}
}

// TestDrawnPages: any 256 bytes, most of which are small, so that many begin as a page does.
func TestDrawnPages(t *testing.T) {
	r := rand.New(rand.NewSource(4))
	met := map[api.Errno]int{}
	for range 100000 {
		b := make([]byte, 256)
		for i := range r.Intn(14) {
			b[i] = byte(r.Intn(4))
		}
		if r.Intn(4) == 0 {
			b[r.Intn(256)] = byte(r.Intn(256))
		}
		met[holdUnpack(t, string(b))]++
	}
	if met[api.OK] < 1000 || met[api.ErrForm] < 1000 {
		t.Errorf("met too seldom: %v", met)
	}
}

// TestCutFits: of a list that would fit without one of its entries both sides fit (P13.3).
func TestCutFits(t *testing.T) {
	r := rand.New(rand.NewSource(5))
	met := 0
	for range 20000 {
		l := drawnList(r, 2+r.Intn(12))
		fits := func(l []api.Entry) bool { return leaf.Size(l) <= api.BlockSize }
		without := func(x api.Entry) bool { m, _ := leaf.Take(l, x.Key); return fits(m) }
		if fits(l) || !slices.ContainsFunc(l, without) {
			continue
		}
		met++
		if a, b := leaf.Cut(l); !fits(a) || !fits(b) || len(a) == 0 || len(b) == 0 {
			t.Fatalf("of %q a side doesn't fit", l)
		}
	}
	if met < 500 {
		t.Errorf("met %d times only", met)
	}
}
