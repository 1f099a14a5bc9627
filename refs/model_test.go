package refs_test

import (
	"fmt"
	"maps"
	"math/rand"
	"slices"
	"strings"
	"testing"

	"aumbry/api"
	"aumbry/disk"
	"aumbry/nodes"
	"aumbry/refs"
	"aumbry/space"
	"aumbry/term"
)

func opened(t testing.TB, blocks, room int) (*disk.Disk, *space.Space) {
	t.Helper()
	d, e := disk.New(blocks)
	want(t, e, api.OK)
	s, e := space.Open(d, room)
	want(t, e, api.OK)
	return d, s
}

func want(t testing.TB, got, want api.Errno) {
	t.Helper()
	if got != want {
		t.Fatalf("%v, want %v", got, want)
	}
}

// off turns the power of a disk off, and changes nothing else of it.
func off(d *disk.Disk) {
	d.Cut(0)
	d.Write(0, strings.Repeat("\x00", 256))
}

func read(t testing.TB, s string) api.Term {
	t.Helper()
	x, _, e := term.Parse(s)
	if e != api.OK {
		t.Fatalf("%s: %v", s, e)
	}
	return x
}

func text(x api.Term) string {
	s, e := term.Print(x)
	if e != api.OK {
		return fmt.Sprint(x, e)
	}
	return s
}

// bytesOf is a number in so many bytes, the highest one first.
func bytesOf(n uint64, width int) string {
	var b []byte
	for i := width - 1; i >= 0; i-- {
		b = append(b, byte(n>>(8*i)))
	}
	return string(b)
}

// listPage is the page of a list that begins with this node, and has so many.
func listPage(first api.Addr, count int) string {
	s := "\x05" + bytesOf(uint64(first), 6) + bytesOf(uint64(count), 4)
	return s + strings.Repeat("\x00", 256-len(s))
}

// model does, one after the other, what the chapter's sentences tell, in a file of nodes of its own, on a disk whose power never fails.
type model struct {
	d         *disk.Disk
	s         *space.Space
	n         *nodes.Nodes
	dir, list int
	queue     []api.Addr
	held      map[api.Addr]int
}

func newModel(t testing.TB, blocks int) *model {
	t.Helper()
	d, s := opened(t, blocks, 1024)
	dir, e := nodes.New(s)
	want(t, e, api.OK)
	list, e := s.Alloc()
	want(t, e, api.OK)
	m := &model{d: d, s: s, n: nodes.At(s, dir), dir: dir, list: list, held: map[api.Addr]int{}}
	m.writeList(t)
	return m
}

func (m *model) writeList(t testing.TB) {
	t.Helper()
	first := api.Addr(0)
	if len(m.queue) > 0 {
		first = m.queue[0]
	}
	want(t, m.s.Put(m.list, listPage(first, len(m.queue))), api.OK)
}

func (m *model) node(t testing.TB, a api.Addr) (api.Node, bool) {
	t.Helper()
	x, is, e := m.n.Get(a)
	want(t, e, api.OK)
	return x, is
}

func (m *model) set(t testing.TB, x api.Node) {
	t.Helper()
	want(t, m.n.Set(x), api.OK)
}

func (m *model) more(t testing.TB, a api.Addr) {
	t.Helper()
	x, _ := m.node(t, a)
	x.Count++
	m.set(t, x)
}

func (m *model) less(t testing.TB, a api.Addr) {
	t.Helper()
	x, _ := m.node(t, a)
	x.Count--
	if x.Count == 0 && !x.Queued {
		x.Queued = true
		if len(m.queue) > 0 {
			x.Next = m.queue[0]
		}
		m.queue = slices.Insert(m.queue, 0, a)
	}
	m.set(t, x)
	m.writeList(t)
}

func (m *model) lay(t testing.TB, x api.Term) api.Addr {
	t.Helper()
	parts, e := term.Kids(x)
	want(t, e, api.OK)
	var kids []api.Addr
	for _, part := range parts {
		kids = append(kids, m.lay(t, part))
	}
	a, added, e := m.n.Add(x[0].Name, kids)
	want(t, e, api.OK)
	if added {
		for _, kid := range kids {
			m.more(t, kid)
		}
	}
	return a
}

func (m *model) keep(t testing.TB, x api.Term) api.Addr {
	t.Helper()
	a := m.lay(t, x)
	m.more(t, a)
	m.held[a]++
	return a
}

func (m *model) hold(t testing.TB, a api.Addr) api.Errno {
	t.Helper()
	x, is := m.node(t, a)
	switch {
	case !is:
		return api.ErrNone
	case x.Count == 1<<32-1:
		return api.ErrMany
	}
	m.more(t, a)
	m.held[a]++
	return api.OK
}

func (m *model) drop(t testing.TB, a api.Addr) api.Errno {
	t.Helper()
	x, is := m.node(t, a)
	switch {
	case !is:
		return api.ErrNone
	case x.Count == 0:
		return api.ErrRange
	}
	m.less(t, a)
	m.held[a]--
	return api.OK
}

func (m *model) reclaim(t testing.TB, n int) (int, bool) {
	t.Helper()
	out := 0
	for i := 0; i < n && len(m.queue) > 0; i++ {
		x, _ := m.node(t, m.queue[0])
		m.queue = m.queue[1:]
		m.writeList(t)
		x.Queued, x.Next = false, 0
		m.set(t, x)
		if x.Count > 0 {
			continue
		}
		_, e := m.n.Remove(x.At)
		want(t, e, api.OK)
		out++
		for _, kid := range x.Kids {
			m.less(t, kid)
		}
	}
	return out, len(m.queue) == 0
}

// text is the term of a node; "", if there is none.
func (m *model) text(t testing.TB, a api.Addr) string {
	t.Helper()
	x, is := m.node(t, a)
	if !is {
		return ""
	}
	var parts []string
	for _, kid := range x.Kids {
		parts = append(parts, m.text(t, kid))
	}
	if len(parts) == 0 {
		return x.Name
	}
	return x.Name + "(" + strings.Join(parts, ",") + ")"
}

func (m *model) all(t testing.TB) []api.Node {
	t.Helper()
	l, e := m.n.List()
	want(t, e, api.OK)
	return l
}

// address is that of a term's node; 0, if there is none.
func (m *model) address(t testing.TB, s string) api.Addr {
	t.Helper()
	parts, e := term.Kids(read(t, s))
	want(t, e, api.OK)
	var kids []api.Addr
	for _, part := range parts {
		a := m.address(t, text(part))
		if a == 0 {
			return 0
		}
		kids = append(kids, a)
	}
	name, _, _ := strings.Cut(s, "(")
	a, _, e := m.n.Find(name, kids)
	want(t, e, api.OK)
	return a
}

// pair is what is asked, and the model that goes through the same.
type pair struct {
	d    *disk.Disk
	s    *space.Space
	r    *refs.Refs
	m    *model
	acts []string
}

func begin(t testing.TB, blocks, room int) *pair {
	t.Helper()
	d, s := opened(t, blocks, room)
	m := newModel(t, blocks)
	dir, list, e := refs.New(s)
	want(t, e, api.OK)
	if dir != m.dir || list != m.list {
		t.Fatalf("New: %d, %d, want %d, %d", dir, list, m.dir, m.list)
	}
	r := refs.At(s, dir, list)
	if r == nil {
		t.Fatal("nothing there")
	}
	return &pair{d: d, s: s, r: r, m: m}
}

func (p *pair) act(form string, args ...any) { p.acts = append(p.acts, fmt.Sprintf(form, args...)) }

func (p *pair) last() []string { return p.acts[max(0, len(p.acts)-8):] }

func (p *pair) keep(t testing.TB, s string) api.Addr {
	t.Helper()
	p.act("keep %s", s)
	a, e := p.r.Keep(read(t, s))
	if wantA := p.m.keep(t, read(t, s)); a != wantA || e != api.OK {
		t.Fatalf("behind %v: %x, %v, want %x", p.last(), a, e, wantA)
	}
	return a
}

func (p *pair) hold(t testing.TB, a api.Addr) api.Errno {
	t.Helper()
	p.act("hold %x", a)
	e := p.r.Hold(a)
	if w := p.m.hold(t, a); e != w {
		t.Fatalf("behind %v: %v, want %v", p.last(), e, w)
	}
	return e
}

func (p *pair) drop(t testing.TB, a api.Addr) api.Errno {
	t.Helper()
	p.act("drop %x", a)
	e := p.r.Drop(a)
	if w := p.m.drop(t, a); e != w {
		t.Fatalf("behind %v: %v, want %v", p.last(), e, w)
	}
	return e
}

func (p *pair) reclaim(t testing.TB, n int) (int, bool) {
	t.Helper()
	p.act("reclaim %d", n)
	out, done, e := p.r.Reclaim(n)
	if wantOut, wantDone := p.m.reclaim(t, n); out != wantOut || done != wantDone || e != api.OK {
		t.Fatalf("behind %v: %d, %v, %v, want %d, %v", p.last(), out, done, e, wantOut, wantDone)
	}
	return out, done
}

// ask asks for the term of an address, and for the address of a term.
func (p *pair) ask(t testing.TB, a api.Addr, s string) {
	t.Helper()
	x, e := p.r.Load(a)
	if w := p.m.text(t, a); w == "" && (len(x) != 0 || e != api.ErrNone) || w != "" && (e != api.OK || text(x) != w) {
		t.Fatalf("behind %v: Load(%x) = %v, %v, want %s", p.last(), a, x, e, w)
	}
	b, found, e := p.r.Has(read(t, s))
	if w := p.m.address(t, s); b != w || found != (w != 0) || e != api.OK {
		t.Fatalf("behind %v: Has(%s) = %x, %v, %v, want %x", p.last(), s, b, found, e, w)
	}
}

// holdPages: byte by byte the pages are as step by step they have come to be.
func (p *pair) holdPages(t testing.TB) {
	t.Helper()
	taken := p.m.s.Taken()
	if !slices.Equal(p.s.Taken(), taken) {
		t.Fatalf("behind %v: taken are %v, want %v", p.last(), p.s.Taken(), taken)
	}
	for _, at := range taken {
		data, e := p.m.s.Get(at)
		want(t, e, api.OK)
		if got, e := p.s.Get(at); got != data || e != api.OK {
			t.Fatalf("behind %v: page %d is\n%q, %v, want\n%q", p.last(), at, got, e, data)
		}
	}
}

// holdAll: it tells what the model tells, and lies on the pages as it has to; all counts are right; and where none waits just what is held is there, with all below it (P17.5).
func (p *pair) holdAll(t testing.TB) {
	t.Helper()
	p.holdPages(t)
	if l, e := p.r.Waiting(); !slices.Equal(l, p.m.queue) || e != api.OK {
		t.Fatalf("behind %v: Waiting = %x, %v, want %x", p.last(), l, e, p.m.queue)
	}
	l, e := p.r.Nodes().List()
	want(t, e, api.OK)
	counts, kids := maps.Clone(p.m.held), map[api.Addr][]api.Addr{}
	for _, x := range l {
		kids[x.At] = x.Kids
		for _, kid := range x.Kids {
			counts[kid]++
		}
	}
	for _, x := range l {
		if x.Count != counts[x.At] || x.Queued != slices.Contains(p.m.queue, x.At) {
			t.Fatalf("behind %v: %v has to have the count %d", p.last(), x, counts[x.At])
		}
	}
	if len(p.m.queue) > 0 {
		return
	}
	reached := map[api.Addr]bool{}
	var reach func(a api.Addr)
	reach = func(a api.Addr) {
		reached[a] = true
		for _, kid := range kids[a] {
			reach(kid)
		}
	}
	for a, n := range p.m.held {
		if n > 0 {
			reach(a)
		}
	}
	if len(reached) != len(l) {
		t.Fatalf("behind %v: there are %d nodes, %d can be reached", p.last(), len(l), len(reached))
	}
}

// some is an address that is held; where there is none, one where nothing is.
func (p *pair) some(r *rand.Rand) api.Addr {
	var l []api.Addr
	for _, a := range slices.Sorted(maps.Keys(p.m.held)) {
		if p.m.held[a] > 0 {
			l = append(l, a)
		}
	}
	if len(l) == 0 {
		return 65537
	}
	return l[r.Intn(len(l))]
}

// any is the address of a node, or near one, or none at all.
func (p *pair) any(t testing.TB, r *rand.Rand) api.Addr {
	t.Helper()
	odd := []api.Addr{0, 65536, 1, 65537, 1 << 48, 1<<48 + 1, 1<<64 - 1, api.Addr(r.Uint32())<<16 + 1}
	l := p.m.all(t)
	if len(l) == 0 || r.Intn(9) == 0 {
		return odd[r.Intn(len(odd))]
	}
	return l[r.Intn(len(l))].At + []api.Addr{0, 0, 0, 0, 1, 65536, 1 << 48}[r.Intn(7)]
}

// commit commits both.
func (p *pair) commit(t testing.TB) {
	t.Helper()
	want(t, p.s.Commit(), api.OK)
	want(t, p.m.s.Commit(), api.OK)
}

// kept is what the model has beside its pages.
type kept struct {
	queue []api.Addr
	held  map[api.Addr]int
}

func (m *model) kept() kept { return kept{slices.Clone(m.queue), maps.Clone(m.held)} }

// undo brings the model back to its last commit, where it had this.
func (m *model) undo(k kept) {
	m.s.Undo()
	m.queue, m.held = slices.Clone(k.queue), maps.Clone(k.held)
}
