package nodes_test

import (
	"fmt"
	"maps"
	"math/rand"
	"slices"
	"strings"
	"testing"

	"aumbry/api"
	"aumbry/disk"
	"aumbry/journal"
	"aumbry/nodes"
	"aumbry/slot"
	"aumbry/space"
)

func opened(t testing.TB, blocks, room int) (*disk.Disk, *space.Space) {
	t.Helper()
	d, e := disk.New(blocks)
	want(t, e, api.OK)
	s, e := space.Open(d, room)
	want(t, e, api.OK)
	return d, s
}

func want(t testing.TB, got, want api.Errno) {
	t.Helper()
	if got != want {
		t.Fatalf("%v, want %v", got, want)
	}
}

// off turns the power of a disk off, and changes nothing else of it.
func off(d *disk.Disk) {
	d.Cut(0)
	d.Write(0, strings.Repeat("\x00", 256))
}

// same holds nodes against each other; nil and empty are one (R3).
func same(x, y api.Node) bool {
	return x.At == y.At && x.Name == y.Name && slices.Equal(x.Kids, y.Kids) && x.Count == y.Count && x.Queued == y.Queued && x.Next == y.Next
}

func allSame(a, b []api.Node) bool { return slices.EqualFunc(a, b, same) }

// room is the user's pages of a space, by numbers, and which of them are taken.
type room struct {
	first, end int
	taken      map[int]bool
}

func roomOf(blocks int) *room {
	first := journal.First(blocks)
	return &room{first: first + 1, end: first + journal.Pages(blocks) - 1, taken: map[int]bool{}}
}

// take takes the free page with the least number; 0, if none is free.
func (r *room) take() int {
	for at := r.first; at < r.end; at++ {
		if !r.taken[at] {
			r.taken[at] = true
			return at
		}
	}
	return 0
}

func (r *room) free() int { return r.end - r.first - len(r.taken) }

// sheet is a bucket's page.
type sheet struct {
	number int
	nodes  []api.Node
}

// model is a file of nodes without a directory: the pages of its buckets, by the bits, written out, with which the hashes there begin.
type model struct {
	room    *room
	dir     int
	buckets map[string][]sheet
}

func newModel(r *room) *model {
	dir := r.take()
	return &model{room: r, dir: dir, buckets: map[string][]sheet{"": {{number: r.take()}}}}
}

// clone is a model of the same file that goes another way.
func (m *model) clone() *model {
	own := &model{room: &room{m.room.first, m.room.end, maps.Clone(m.room.taken)}, dir: m.dir, buckets: map[string][]sheet{}}
	for key, l := range m.buckets {
		for _, p := range l {
			own.buckets[key] = append(own.buckets[key], sheet{p.number, slices.Clone(p.nodes)})
		}
	}
	return own
}

func bitsOf(hash uint32) string { return fmt.Sprintf("%032b", hash) }

func bitsAt(a api.Addr) string { return bitsOf(uint32(a / 65536)) }

// key is the bits of the bucket where a hash belongs, of which the bits are told, or of the bucket at a place.
func (m *model) key(bits string) string {
	for key := range m.buckets {
		if strings.HasPrefix(bits, key) {
			return key
		}
	}
	return "none"
}

func (m *model) all() []api.Node {
	var l []api.Node
	for _, bucket := range m.buckets {
		for _, p := range bucket {
			l = append(l, p.nodes...)
		}
	}
	slices.SortFunc(l, func(x, y api.Node) int {
		if x.At < y.At {
			return -1
		}
		return 1
	})
	return l
}

func (m *model) get(a api.Addr) (api.Node, bool) {
	for _, x := range m.all() {
		if x.At == a {
			return x, true
		}
	}
	return api.Node{}, false
}

func (m *model) find(c content) (api.Addr, bool) {
	for _, p := range m.buckets[m.key(bitsOf(c.hash()))] {
		for _, x := range p.nodes {
			if x.Name == c.name && slices.Equal(x.Kids, c.kids) {
				return x.At, true
			}
		}
	}
	return 0, false
}

func (m *model) add(c content) (api.Addr, bool) {
	if a, ok := m.find(c); ok {
		return a, false
	}
	a := api.Addr(c.hash())*65536 + 1
	for _, is := m.get(a); is; _, is = m.get(a) {
		a++
	}
	m.lay(api.Node{At: a, Name: c.name, Kids: slices.Clone(c.kids)})
	return a, true
}

func (m *model) lay(x api.Node) {
	key := m.key(bitsAt(x.At))
	l := m.buckets[key]
	for i := range l {
		if len(l[i].nodes) < 5 {
			l[i].nodes = append(l[i].nodes, x)
			return
		}
	}
	if len(key) == 5 {
		m.buckets[key] = append(l, sheet{m.room.take(), []api.Node{x}})
		return
	}
	delete(m.buckets, key)
	for _, bit := range []string{"0", "1"} {
		p := sheet{number: l[0].number}
		if bit == "1" {
			p.number = m.room.take()
		}
		for _, y := range l[0].nodes {
			if strings.HasPrefix(bitsAt(y.At), key+bit) {
				p.nodes = append(p.nodes, y)
			}
		}
		m.buckets[key+bit] = []sheet{p}
	}
	m.lay(x)
}

func (m *model) remove(a api.Addr) bool {
	key := m.key(bitsAt(a))
	l := m.buckets[key]
	for i := range l {
		for j, x := range l[i].nodes {
			if x.At != a {
				continue
			}
			l[i].nodes = slices.Delete(l[i].nodes, j, j+1)
			if i > 0 && len(l[i].nodes) == 0 {
				delete(m.room.taken, l[i].number)
				m.buckets[key] = slices.Delete(l, i, i+1)
			}
			return true
		}
	}
	return false
}

func (m *model) set(x api.Node) api.Errno {
	y, is := m.get(x.At)
	isAddr := func(a api.Addr) bool { return a%65536 != 0 && a/65536 < 1<<32 }
	switch {
	case !is, x.Name != y.Name, !slices.Equal(x.Kids, y.Kids):
		return api.ErrNone
	case x.Count < 0, x.Count > 4294967295, x.Next != 0 && !isAddr(x.Next):
		return api.ErrRange
	}
	for _, p := range m.buckets[m.key(bitsAt(x.At))] {
		for i := range p.nodes {
			if p.nodes[i].At == x.At {
				p.nodes[i].Count, p.nodes[i].Queued, p.nodes[i].Next = x.Count, x.Queued, x.Next
			}
		}
	}
	return api.OK
}

func (m *model) depth() int {
	most := 0
	for key := range m.buckets {
		most = max(most, len(key))
	}
	return most
}

// pages are the file's pages by their numbers, as they have to lie there.
func (m *model) pages(t testing.TB) map[int]string {
	t.Helper()
	d := m.depth()
	b := make([]byte, 256)
	b[0], b[1] = 4, byte(d)
	for i := range 1 << d {
		at := m.buckets[m.key(fmt.Sprintf("%0*b", d, i)[:d])][0].number
		b[2+2*i], b[3+2*i] = byte(at/256), byte(at%256)
	}
	pages := map[int]string{m.dir: string(b)}
	for key, l := range m.buckets {
		for i, p := range l {
			bucket := api.Bucket{Depth: len(key), Nodes: p.nodes}
			if i+1 < len(l) {
				bucket.Next = l[i+1].number
			}
			data, e := slot.Pack(bucket)
			want(t, e, api.OK)
			pages[p.number] = data
		}
	}
	return pages
}

// content is a node's name and kids.
type content struct {
	name string
	kids []api.Addr
}

func (c content) hash() uint32 {
	hash, e := slot.Hash(c.name, c.kids)
	if e != api.OK {
		panic(e)
	}
	return hash
}

// pair is a file, and the model that goes through the same. The file has the space alone, but where a room is shared.
type pair struct {
	d           *disk.Disk
	s           *space.Space
	n           *nodes.Nodes
	m           *model
	adds, taken int
	acts        []string
}

func begin(t testing.TB, blocks, room int) *pair {
	t.Helper()
	d, s := opened(t, blocks, room)
	return beginIn(t, d, s, roomOf(blocks))
}

func beginIn(t testing.TB, d *disk.Disk, s *space.Space, r *room) *pair {
	t.Helper()
	m := newModel(r)
	dir, e := nodes.New(s)
	want(t, e, api.OK)
	if dir != m.dir {
		t.Fatalf("the directory's page is %d, want %d", dir, m.dir)
	}
	n := nodes.At(s, dir)
	if n == nil {
		t.Fatal("no file")
	}
	return &pair{d: d, s: s, n: n, m: m}
}

func (p *pair) act(form string, args ...any) { p.acts = append(p.acts, fmt.Sprintf(form, args...)) }

func (p *pair) last() []string { return p.acts[max(0, len(p.acts)-6):] }

// add adds to both. An Add takes at most six pages, n of them at most n and 32 (P16.6).
func (p *pair) add(t testing.TB, c content) api.Addr {
	t.Helper()
	p.act("add %s %x", c.name, c.kids)
	free := p.s.Free()
	a, added, e := p.n.Add(c.name, c.kids)
	if wantA, wantAdded := p.m.add(c); a != wantA || added != wantAdded || e != api.OK {
		t.Fatalf("behind %v: %d, %v, %v, want %d, %v", p.last(), a, added, e, wantA, wantAdded)
	}
	taken := free - p.s.Free()
	p.adds++
	p.taken += taken
	if taken > 6 || p.taken > p.adds+32 {
		t.Fatalf("behind %v: an Add has taken %d pages, %d of them %d", p.last(), taken, p.adds, p.taken)
	}
	return a
}

func (p *pair) remove(t testing.TB, a api.Addr) {
	t.Helper()
	p.act("remove %x", a)
	found, e := p.n.Remove(a)
	if there := p.m.remove(a); found != there || e != api.OK {
		t.Fatalf("behind %v: %v, %v, want %v", p.last(), found, e, there)
	}
}

func (p *pair) set(t testing.TB, x api.Node) api.Errno {
	t.Helper()
	p.act("set %v", x)
	e := p.n.Set(x)
	if w := p.m.set(x); e != w {
		t.Fatalf("behind %v: %v, want %v", p.last(), e, w)
	}
	return e
}

// ask asks for a content and for an address.
func (p *pair) ask(t testing.TB, c content, a api.Addr) {
	t.Helper()
	b, found, e := p.n.Find(c.name, c.kids)
	if wantB, there := p.m.find(c); b != wantB || found != there || e != api.OK {
		t.Fatalf("behind %v: Find(%v) = %d, %v, %v, want %d, %v", p.last(), c, b, found, e, wantB, there)
	}
	x, found, e := p.n.Get(a)
	if wantX, there := p.m.get(a); !same(x, wantX) || found != there || e != api.OK {
		t.Fatalf("behind %v: Get(%x) = %v, %v, %v, want %v, %v", p.last(), a, x, found, e, wantX, there)
	}
}

// holdPages: byte by byte the file's pages are as they have to be.
func (p *pair) holdPages(t testing.TB) {
	t.Helper()
	for at, data := range p.m.pages(t) {
		if got, e := p.s.Get(at); got != data || e != api.OK {
			t.Fatalf("behind %v: page %d is\n%q, %v, want\n%q", p.last(), at, got, e, data)
		}
	}
}

// hold: the file tells what the model tells, and lies on the pages as it has to.
func (p *pair) hold(t testing.TB) {
	t.Helper()
	p.holdPages(t)
	if l, e := p.n.List(); !allSame(l, p.m.all()) || e != api.OK {
		t.Fatalf("behind %v: List = %v, %v, want %v", p.last(), l, e, p.m.all())
	}
	if d, e := p.n.Depth(); d != p.m.depth() || e != api.OK {
		t.Fatalf("behind %v: Depth = %d, %v, want %d", p.last(), d, e, p.m.depth())
	}
	numbers := slices.Sorted(maps.Keys(p.m.pages(t)))
	if l, e := p.n.Pages(); !slices.Equal(l, numbers) || e != api.OK {
		t.Fatalf("behind %v: Pages = %v, %v, want %v", p.last(), l, e, numbers)
	}
	if taken := slices.Sorted(maps.Keys(p.m.room.taken)); !slices.Equal(p.s.Taken(), taken) {
		t.Fatalf("behind %v: taken are %v, want %v", p.last(), p.s.Taken(), taken)
	}
}

// some is an address of a node that is there; now and then, and where there is none, any other one, or none at all.
func (p *pair) some(r *rand.Rand) api.Addr {
	l := p.m.all()
	odd := []api.Addr{0, 65536, 1, 65537, 1 << 48, 1<<48 + 1, 1<<64 - 1, api.Addr(r.Uint32())<<16 + 1}
	if len(l) == 0 || r.Intn(9) == 0 {
		return odd[r.Intn(len(odd))]
	}
	a := l[r.Intn(len(l))].At
	switch r.Intn(20) {
	case 0:
		a++
	case 1:
		a += 1 << 48
	case 2:
		a += 65536
	}
	return a
}

// drawnSet is what Set may be asked for, often one that may be.
func (p *pair) drawnSet(r *rand.Rand) api.Node {
	x, is := p.m.get(p.some(r))
	if !is {
		x = api.Node{At: p.some(r), Name: "a"}
	}
	x.Kids = slices.Clone(x.Kids)
	x.Count = []int{0, 1, 255, 65536, 1<<32 - 1, int(r.Uint32()), -1, 1 << 32}[r.Intn(8)]
	x.Queued = r.Intn(2) == 0
	x.Next = []api.Addr{0, 1, 65537, 1<<48 - 1, api.Addr(r.Uint32())<<16 + 1, 65536, 1 << 48}[r.Intn(7)]
	switch r.Intn(12) {
	case 0:
		x.Name = []string{"", "b", "X", x.Name + "0", "Aa"}[r.Intn(5)]
	case 1:
		x.Kids = append(x.Kids, 1)
	case 2:
		if len(x.Kids) > 0 {
			x.Kids[r.Intn(len(x.Kids))]++
		}
	}
	return x
}
