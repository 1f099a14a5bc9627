package tree_test

import (
	"encoding/binary"
	"fmt"
	"math/rand"
	"slices"
	"strings"
	"testing"

	"aumbry/api"
	"aumbry/space"
	"aumbry/tree"
)

// room is how many bytes a page has left.
func (x *shape) room(at int) int {
	n := 254
	for _, y := range x.lists[at] {
		n -= 2 + len(y.Key) + len(y.Value)
	}
	return n
}

// lowest are the branches above leaves.
func (x *shape) lowest() []int {
	var l []int
	for _, at := range x.numbers() {
		if !x.leaves[at] && x.leaves[kid(x.lists[at][0])] {
			l = append(l, at)
		}
	}
	return l
}

// wide is a key of 8 bytes: a number, the highest byte first.
func wide(n uint64) string { return string(binary.BigEndian.AppendUint64(nil, n)) }

// between is a new key of 8 bytes behind a leaf's first one, and ahead of its second one.
func (x *shape) between(at int) string {
	first := binary.BigEndian.Uint64([]byte(x.lists[at][0].Key))
	if len(x.lists[at]) == 1 {
		return wide(first + 1)
	}
	return wide(first + (binary.BigEndian.Uint64([]byte(x.lists[at][1].Key))-first)/2)
}

// fullest is the leaf below a branch that has the least room left, or the most.
func (x *shape) fullest(at, way int) int {
	list := x.lists[at]
	return kid(slices.MinFunc(list, func(a, b api.Entry) int { return way * (x.room(kid(a)) - x.room(kid(b))) }))
}

// TestFullBranches: also where each Put comes below a branch that has no room left, n Puts take at most 2 n and 8 pages (P14.4).
func TestFullBranches(t *testing.T) {
	t.Parallel()
	p := begin(t, 2048, 8)
	value := strings.Repeat("v", 64)
	for i := range uint64(1200) {
		p.put(t, wide(i*7%1200<<53), value)
	}
	fill(t, p, value)
	now := look(t, p.s, p.root)
	// The Puts behind one another, of which no more than so many pages are taken, begin here.
	p.puts, p.ahead = 0, p.s.Free()
	free := p.s.Free()
	puts := 0
	for _, at := range now.lowest() {
		if kid := now.fullest(at, 1); now.room(at) < 12 && now.room(kid) < 74 {
			p.put(t, now.between(kid), value)
			puts++
		}
	}
	if taken := free - p.s.Free(); puts < 30 || taken < 2*puts {
		t.Errorf("%d Puts have taken %d pages: they are to cut a branch each", puts, taken)
	}
	look(t, p.s, p.root)
}

// fill puts keys where branches have room left, and then where leaves have, till there is none, or hardly a page is free.
func fill(t *testing.T, p *pair, value string) {
	t.Helper()
	for more := true; more; {
		more = false
		now := look(t, p.s, p.root)
		for _, at := range now.lowest() {
			leaf := now.fullest(at, 1)
			if now.room(at) < 12 {
				leaf = now.fullest(at, -1)
			}
			if p.s.Free() > 100 && (now.room(at) >= 12 || now.room(leaf) >= 74) {
				p.put(t, now.between(leaf), value)
				more = true
			}
		}
	}
}

// TestOrders: also in rising and in falling order, with values of each length, n Puts take at most 2 n and 8 pages.
func TestOrders(t *testing.T) {
	for _, n := range []int{0, 5, 20, 64} {
		for _, way := range []func(i int) int{func(i int) int { return i }, func(i int) int { return 299 - i }, func(i int) int { return i * 7 % 300 }} {
			p := begin(t, 600, 3)
			for i := range 300 {
				p.put(t, fmt.Sprintf("%08d", way(i)), strings.Repeat("v", n))
			}
			p.hold(t)
		}
	}
}

// TestFull: a disk without a free page refuses what takes one, and behind Undo all is as it was; what takes none goes on.
func TestFull(t *testing.T) {
	for _, first := range []int{0, 1, 2, 3, 4, 5, 6, 7} {
		_, s := opened(t, 64, 2)
		for range first {
			_, e := s.Alloc()
			want(t, e, api.OK)
		}
		root, x := planted(t, s)
		m := map[string]string{}
		i := 0
		for ; i < 1000; i++ {
			want(t, s.Commit(), api.OK)
			k := fmt.Sprintf("%032d", i*37%1000)
			e := x.Put(k, strings.Repeat("v", 64))
			if e != api.OK {
				want(t, e, api.ErrFull)
				break
			}
			m[k] = strings.Repeat("v", 64)
		}
		s.Undo()
		p := pair{s: s, root: root, x: x, m: m}
		if now := look(t, s, root); i == 1000 || !slices.Equal(now.entries, p.sorted()) || len(s.Taken()) != len(now.data)+first {
			t.Fatalf("behind %d Puts it isn't as it was", i)
		}
		for s.Free() > 0 {
			_, e := s.Alloc()
			want(t, e, api.OK)
		}
		for i, y := range p.sorted() {
			want(t, x.Put(y.Key, strings.Repeat("w", i%65)), api.OK)
			if i%2 == 0 {
				found, e := x.Delete(y.Key)
				if !found || e != api.OK {
					t.Fatalf("Delete on a full disk: %v, %v", found, e)
				}
			}
		}
		look(t, s, root)
	}
}

// sweep is a tree of so many entries, of which all but those that keep tells are deleted, in the order of the places.
func sweep(t *testing.T, n int, key func(i int) string, value string, places func(i int) int, keep func(i int) bool) *pair {
	t.Helper()
	p := begin(t, 600, 6)
	for i := range n {
		p.put(t, key(i*7919%n), value)
	}
	p.hold(t)
	for i := range n {
		if j := places(i); !keep(j) {
			p.take(t, key(j))
			p.hold(t)
		}
	}
	return p
}

// TestGivenBack: what Deletes leave behind lies on few pages: of two side by side at least one is more than half full.
func TestGivenBack(t *testing.T) {
	t.Parallel()
	n := 160
	long := func(i int) string { return fmt.Sprintf("%032d", i) }
	mixed := func(i int) string { return fmt.Sprintf("%04d%s", i, strings.Repeat("z", 28))[:4+28*(i%2)] }
	for _, key := range []func(i int) string{long, mixed} {
		for _, places := range []func(i int) int{func(i int) int { return i }, func(i int) int { return n - 1 - i }, func(i int) int { return i * 123 % n }, func(i int) int { return (i + n/2) % n }} {
			for _, every := range []int{1000, 50, 9} {
				p := sweep(t, n, key, "value", places, func(i int) bool { return i%every == every/2 })
				for _, y := range p.sorted() {
					p.ask(t, y.Key, 1)
				}
			}
		}
	}
}

// TestSideBySideAgain: two pages that fit into one, of which a Delete has changed one, but that lay below two branches when it did, are joined when their branches are.
func TestSideBySideAgain(t *testing.T) {
	t.Parallel()
	r := rand.New(rand.NewSource(6))
	joined := 0
	for range 12 {
		p := begin(t, 900, 6)
		life{keys[3+r.Intn(3)], func(r *rand.Rand) string { return "" }, 10, 100}.start(t, r, p, 200)
		// Of pages whose values have become shorter more fit into one; no Delete has changed them.
		for _, y := range p.sorted() {
			if r.Intn(3) > 0 {
				p.put(t, y.Key, "")
			}
		}
		p.was = look(t, p.s, p.root)
		depth := p.was.depth
		p.empty(t, r)
		if depth > 2 {
			joined++
		}
	}
	if joined < 6 {
		t.Errorf("%d trees were deep only", joined)
	}
}

// start puts so many entries, with long values.
func (l life) start(t *testing.T, r *rand.Rand, p *pair, n int) {
	t.Helper()
	for range n {
		p.put(t, l.key(r), strings.Repeat("v", r.Intn(65)))
	}
}

// TestReleased: what is given back is free, and is taken again by other trees.
func TestReleased(t *testing.T) {
	_, s := opened(t, 64, 2)
	first, _ := tree.New(s)
	second, _ := tree.New(s)
	for i := range 20 {
		root := []int{first, second}[i%2]
		grow(t, s, root)
		x := tree.At(s, root)
		l, e := x.List("", 9999)
		want(t, e, api.OK)
		for _, y := range l {
			if found, e := x.Delete(y.Key); !found || e != api.OK {
				t.Fatal(found, e)
			}
		}
		if s.Free() != 27 {
			t.Fatalf("%d pages are free", s.Free())
		}
	}
}

// grow puts entries below a root till hardly a page is free.
func grow(t *testing.T, s *space.Space, root int) {
	t.Helper()
	for i := 0; s.Free() >= 3; i++ {
		want(t, tree.At(s, root).Put(fmt.Sprintf("%08d", i), strings.Repeat("v", 64)), api.OK)
	}
}
