package tree_test

import (
	"bytes"
	"fmt"
	"maps"
	"math/rand"
	"slices"
	"strings"
	"testing"

	"aumbry/api"
	"aumbry/disk"
	"aumbry/leaf"
	"aumbry/space"
	"aumbry/tree"
)

func opened(t testing.TB, blocks, room int) (*disk.Disk, *space.Space) {
	t.Helper()
	d, e := disk.New(blocks)
	want(t, e, api.OK)
	s, e := space.Open(d, room)
	want(t, e, api.OK)
	return d, s
}

func planted(t testing.TB, s *space.Space) (int, *tree.Tree) {
	t.Helper()
	root, e := tree.New(s)
	want(t, e, api.OK)
	x := tree.At(s, root)
	if x == nil {
		t.Fatal("no tree")
	}
	return root, x
}

func want(t testing.TB, got, want api.Errno) {
	t.Helper()
	if got != want {
		t.Fatalf("%v, want %v", got, want)
	}
}

// off turns the power of a disk off, and changes nothing else of it.
func off(d *disk.Disk) {
	d.Cut(0)
	d.Write(0, strings.Repeat("\x00", 256))
}

// shape is what lies in a tree's pages, read by the chapter's words alone.
type shape struct {
	depth   int
	data    map[int]string
	lists   map[int][]api.Entry
	leaves  map[int]bool
	beside  map[[2]int]bool // the pairs that lie side by side below one page
	entries []api.Entry
}

// look reads a tree, and holds its pages against the words of what a tree is.
func look(t testing.TB, s *space.Space, root int) *shape {
	t.Helper()
	x := &shape{data: map[int]string{}, lists: map[int][]api.Entry{}, leaves: map[int]bool{}, beside: map[[2]int]bool{}}
	x.goTo(t, s, root, 1, "")
	if list := x.lists[root]; len(list) == 1 && !x.leaves[root] {
		t.Fatal("the root has an only child")
	}
	for at, list := range x.lists {
		if len(list) == 0 && at != root {
			t.Fatalf("page %d has no entries", at)
		}
	}
	return x
}

// goTo reads a page, which has a name above it, and all below it, and answers the keys that are below.
func (x *shape) goTo(t testing.TB, s *space.Space, at, depth int, name string) []string {
	t.Helper()
	data, e := s.Get(at)
	want(t, e, api.OK)
	if _, twice := x.data[at]; twice {
		t.Fatalf("page %d is gone to twice", at)
	}
	kind, list, e := leaf.Unpack(data)
	want(t, e, api.OK)
	x.data[at], x.lists[at] = data, list
	var keys []string
	if kind == leaf.Leaf {
		if x.depth != 0 && x.depth != depth {
			t.Fatalf("leaves lie %d and %d deep", x.depth, depth)
		}
		x.depth, x.leaves[at] = depth, true
		x.entries = append(x.entries, list...)
		for _, y := range list {
			keys = append(keys, y.Key)
		}
		return keys
	}
	// The words leave the first entry's key free. But only if it is the name fit pages into one just where their entries do.
	if len(list) > 0 && list[0].Key != name {
		t.Fatalf("page %d is named by %q, and begins with %q", at, name, list[0].Key)
	}
	for i, y := range list {
		if len(y.Value) != 2 {
			t.Fatalf("page %d has the value %q", at, y.Value)
		}
		below := x.goTo(t, s, kid(y), depth+1, y.Key)
		for _, k := range below {
			if k < y.Key || i+1 < len(list) && k >= list[i+1].Key {
				t.Fatalf("page %d: key %q lies below %q", at, k, y.Key)
			}
		}
		if i > 0 {
			x.beside[[2]int{kid(list[i-1]), kid(y)}] = true
		}
		keys = append(keys, below...)
	}
	return keys
}

func kid(x api.Entry) int { return int(x.Value[0])*256 + int(x.Value[1]) }

func (x *shape) numbers() []int { return slices.Sorted(maps.Keys(x.data)) }

// fit: the entries of both pages fit into one.
func (x *shape) fit(pair [2]int) bool {
	n := 2
	for _, at := range pair {
		for _, y := range x.lists[at] {
			n += 2 + len(y.Key) + len(y.Value)
		}
	}
	return n <= 256
}

// pair is a tree, and the model that goes through the same: a map. The tree has the space alone.
type pair struct {
	d     *disk.Disk
	s     *space.Space
	root  int
	x     *tree.Tree
	m     map[string]string
	was   *shape
	short bool // all keys have at most 8 bytes
	// ahead is, of Puts behind one another, the most that free pages and twice the Puts came to.
	puts, ahead int
	gone        map[int]bool // the pages that were changed by Deletes behind one another
	acts        []string
}

func begin(t testing.TB, blocks, room int) *pair {
	t.Helper()
	d, s := opened(t, blocks, room)
	root, x := planted(t, s)
	p := &pair{d: d, s: s, root: root, x: x, m: map[string]string{}, short: true, gone: map[int]bool{}}
	p.was = look(t, s, root)
	p.ahead = s.Free()
	return p
}

func (p *pair) last() []string { return p.acts[max(0, len(p.acts)-6):] }

// put puts into both. A Put takes at most one page more than the tree is deep, n Puts at most 2 n and 8.
func (p *pair) put(t testing.TB, key, value string) {
	t.Helper()
	p.acts = append(p.acts, fmt.Sprintf("put %.9q(%d) (%d)", key, len(key), len(value)))
	free, deep := p.s.Free(), p.deep(t)
	if e := p.x.Put(key, value); e != api.OK {
		t.Fatalf("behind %v: %v", p.last(), e)
	}
	p.m[key] = value
	p.short = p.short && len(key) <= 8
	taken := free - p.s.Free()
	if taken > deep+1 {
		t.Fatalf("behind %v: a Put takes %d pages of a tree %d deep", p.last(), taken, deep)
	}
	p.puts++
	if taken = p.ahead - p.s.Free() - 2*p.puts; p.short && taken > 8 {
		t.Fatalf("behind %v: Puts take %d pages more than twice their number", p.last(), taken)
	}
	p.ahead = max(p.ahead, p.s.Free()+2*p.puts)
	clear(p.gone)
}

// take deletes from both. A Delete takes no page; of those that lie side by side none is left that isn't needed.
func (p *pair) take(t testing.TB, key string) {
	t.Helper()
	p.acts = append(p.acts, fmt.Sprintf("take %.9q(%d)", key, len(key)))
	free := p.s.Free()
	found, e := p.x.Delete(key)
	if _, there := p.m[key]; e != api.OK || found != there {
		t.Fatalf("behind %v: %v, %v, want %v", p.last(), found, e, there)
	}
	delete(p.m, key)
	if p.s.Free() < free {
		t.Fatalf("behind %v: a Delete takes pages", p.last())
	}
	p.puts, p.ahead = 0, p.s.Free()
}

// hold: the tree tells what the model tells, and its pages are those that it needs. It is asked behind each Delete, for what that has changed to be known.
func (p *pair) hold(t testing.TB) {
	t.Helper()
	now := look(t, p.s, p.root)
	all := p.sorted()
	if !slices.Equal(now.entries, all) {
		t.Fatalf("behind %v: %d entries in the pages, want %d", p.last(), len(now.entries), len(all))
	}
	if numbers, e := p.x.Pages(); e != api.OK || !slices.Equal(numbers, now.numbers()) || !slices.Equal(numbers, p.s.Taken()) {
		t.Fatalf("behind %v: pages %v, %v, want %v of %v", p.last(), numbers, e, now.numbers(), p.s.Taken())
	}
	if strings.HasPrefix(p.acts[len(p.acts)-1], "take") {
		p.holdPairs(t, now)
	}
	p.was = now
}

// holdPairs: two pages that lie side by side don't fit into one, if a Delete has changed one of them, or brought them there.
func (p *pair) holdPairs(t testing.TB, now *shape) {
	t.Helper()
	for at, data := range now.data {
		if old, there := p.was.data[at]; !there || old != data {
			p.gone[at] = true
		}
	}
	for pair := range now.beside {
		if now.fit(pair) && (p.gone[pair[0]] || p.gone[pair[1]] || !p.was.beside[pair]) {
			t.Fatalf("behind %v: the pages %v fit into one", p.last(), pair)
		}
	}
}

// deep is how deep the tree is, on the way to its first leaf.
func (p *pair) deep(t testing.TB) int {
	t.Helper()
	at, n := p.root, 1
	for {
		data, e := p.s.Get(at)
		want(t, e, api.OK)
		if data[0] == leaf.Leaf {
			return n
		}
		_, list, _ := leaf.Unpack(data)
		at = kid(list[0])
		n++
	}
}

func (p *pair) sorted() []api.Entry {
	var l []api.Entry
	for k, v := range p.m {
		l = append(l, api.Entry{Key: k, Value: v})
	}
	slices.SortFunc(l, func(a, b api.Entry) int { return bytes.Compare([]byte(a.Key), []byte(b.Key)) })
	return l
}

// listOf is what List answers, one by one.
func (p *pair) listOf(from string, n int) []api.Entry {
	var l []api.Entry
	for _, x := range p.sorted() {
		if x.Key >= from && len(l) < n {
			l = append(l, x)
		}
	}
	return l
}

// ask asks for a key, and for a piece of the list from there on.
func (p *pair) ask(t testing.TB, key string, n int) {
	t.Helper()
	value, found, e := p.x.Get(key)
	if v, there := p.m[key]; e != api.OK || value != v || found != there {
		t.Fatalf("behind %v: Get(%q) = %q, %v, %v, want %q, %v", p.last(), key, value, found, e, v, there)
	}
	l, e := p.x.List(key, n)
	if e != api.OK || !slices.Equal(l, p.listOf(key, n)) {
		t.Fatalf("behind %v: List(%q, %d) = %q, %v, want %q", p.last(), key, n, l, e, p.listOf(key, n))
	}
}

// keys are ways to draw keys: short ones, long ones, ones that begin one another, and ones of very unlike lengths.
var keys = []func(r *rand.Rand) string{
	func(r *rand.Rand) string { return fmt.Sprintf("k%d", r.Intn(3000)) },
	func(r *rand.Rand) string { return string([]byte{byte(r.Intn(256)), byte(r.Intn(16))})[:1+r.Intn(2)] },
	func(r *rand.Rand) string { return fmt.Sprintf("%08d", r.Intn(3000)) },
	func(r *rand.Rand) string { return fmt.Sprintf("%032d", r.Intn(1500)) },
	func(r *rand.Rand) string {
		return fmt.Sprintf("%04d%s", r.Intn(1500), strings.Repeat("\xff", 28))[:4+28*r.Intn(2)]
	},
	func(r *rand.Rand) string {
		n := r.Intn(900)
		return strings.Repeat("\x00", n%31) + string([]byte{byte(1 + n/31)})
	},
}
