package nodes_test

import (
	"math/rand"
	"slices"
	"testing"

	"aumbry/api"
	"aumbry/nodes"
	"aumbry/space"
)

// TestPowerOff: a call that meets ErrDown answers nothing beside it, and has changed nothing; one that doesn't meet it has done all (R2, R6). With room for many pages the file is held, with little nearly nothing is.
func TestPowerOff(t *testing.T) {
	t.Parallel()
	r := rand.New(rand.NewSource(7))
	met := map[string]int{}
	for _, room := range []int{1, 2, 5, 300} {
		p := begin(t, 900, room)
		// The file grows, so that buckets are cut and linked with the power off, too.
		contents := slices.Concat(spread(r, 200), narrow("0110", 60), twins()[:20])
		for i := range 3500 {
			p.warm(r, contents)
			off(p.d)
			p.try(t, r, contents[:min(len(contents), 10+i/4)], met)
			p.d.Restore()
			if r.Intn(10) == 0 {
				p.hold(t)
			}
			if r.Intn(6) == 0 {
				want(t, p.s.Commit(), api.OK)
			}
			if i%700 == 0 {
				p.empty(t, r)
			}
		}
	}
	for _, call := range []string{"find", "get", "add", "set", "remove", "list", "depth", "pages"} {
		for _, how := range []string{" ok", " down"} {
			if met[call+how] < 50 {
				t.Errorf("%s%s was met %d times only", call, how, met[call+how])
			}
		}
	}
	if met["cut"] < 20 || met["link"] < 20 || met["given back"] < 20 {
		t.Errorf("of those that went well with the power off too few were rare ones: %v", met)
	}
}

// warm reads some pages, which are held then.
func (p *pair) warm(r *rand.Rand, contents []content) {
	for range r.Intn(3) {
		c := contents[r.Intn(len(contents))]
		p.n.Find(c.name, c.kids)
	}
	if r.Intn(4) == 0 {
		p.n.Pages()
	}
	if r.Intn(3) > 0 {
		p.s.Free()
	}
}

// try does one call with the power off, and to the model what it has done.
func (p *pair) try(t *testing.T, r *rand.Rand, contents []content, met map[string]int) {
	t.Helper()
	c, a, x := contents[r.Intn(len(contents))], p.some(r), p.drawnSet(r)
	call, e, right := "", api.OK, false
	switch r.Intn(10) {
	case 0:
		var b api.Addr
		var found bool
		call = "find"
		b, found, e = p.n.Find(c.name, c.kids)
		wantB, there := p.m.find(c)
		right = b == wantB && found == there || e != api.OK && b == 0 && !found
	case 1:
		var y api.Node
		var found bool
		call = "get"
		y, found, e = p.n.Get(a)
		wantY, there := p.m.get(a)
		right = same(y, wantY) && found == there || e != api.OK && same(y, api.Node{}) && !found
	case 2, 3, 4:
		call = "add"
		e, right = p.tryAdd(c, met)
	case 5:
		call = "set"
		e = p.n.Set(x)
		right = e == api.ErrDown || p.m.set(x) == e
	case 6:
		var found bool
		call = "remove"
		a = p.lonely(a)
		free := p.m.room.free()
		found, e = p.n.Remove(a)
		right = e != api.OK && !found || e == api.OK && found == p.m.remove(a)
		met["given back"] += p.m.room.free() - free
	case 7:
		var l []api.Node
		call = "list"
		l, e = p.n.List()
		right = allSame(l, p.m.all()) || e != api.OK && len(l) == 0
	case 8:
		var d int
		call = "depth"
		d, e = p.n.Depth()
		right = d == p.m.depth() || e != api.OK && d == 0
	case 9:
		var l []int
		call = "pages"
		l, e = p.n.Pages()
		right = (len(l) > 0) == (e == api.OK)
	}
	if !right || e != api.OK && e != api.ErrDown && call != "set" {
		t.Fatalf("%s(%v, %d): %v", call, c, a, e)
	}
	met[call+map[api.Errno]string{api.OK: " ok", api.ErrDown: " down", api.ErrNone: " none", api.ErrRange: " range"}[e]]++
}

// lonely is the least address of a node alone in a page that a Next tells; where there is none, the one that is handed in.
func (p *pair) lonely(a api.Addr) api.Addr {
	var alone []api.Addr
	for _, l := range p.m.buckets {
		for _, page := range l[1:] {
			if len(page.nodes) == 1 {
				alone = append(alone, page.nodes[0].At)
			}
		}
	}
	if len(alone) == 0 {
		return a
	}
	return slices.Min(alone)
}

// tryAdd notes whether the Add that went well has cut a bucket, or linked a page.
func (p *pair) tryAdd(c content, met map[string]int) (api.Errno, bool) {
	buckets, free := len(p.m.buckets), p.m.room.free()
	a, added, e := p.n.Add(c.name, c.kids)
	if e != api.OK {
		return e, a == 0 && !added
	}
	wantA, wantAdded := p.m.add(c)
	cuts := len(p.m.buckets) - buckets
	met["cut"] += cuts
	met["link"] += free - p.m.room.free() - cuts
	return e, a == wantA && added == wantAdded
}

// TestNewDown: New takes no page with the power off.
func TestNewDown(t *testing.T) {
	d, s := opened(t, 64, 1)
	_, _ = s.Head()
	off(d)
	dir, e := nodes.New(s)
	d.Restore()
	if dir != 0 || e != api.ErrDown || len(s.Taken()) != 0 {
		t.Errorf("New: %d, %v, taken %v", dir, e, s.Taken())
	}
}

// TestAllDown: of a file none of whose pages is held every call that has to read answers ErrDown, but errors that are named ahead of reading.
func TestAllDown(t *testing.T) {
	p := begin(t, 200, 1)
	l := narrow("", 50)
	var a api.Addr
	for _, c := range l {
		a = p.add(t, c)
	}
	want(t, p.s.Commit(), api.OK)
	var e api.Errno
	p.s, e = space.Open(p.d, 1)
	want(t, e, api.OK)
	p.n = nodes.At(p.s, p.m.dir)
	off(p.d)
	failing(t, p.n, l[49], a, api.ErrDown)
	failing(t, p.n, content{"new", nil}, a+9, api.ErrDown)
	if _, _, e := p.n.Add("new", []api.Addr{0}); e != api.ErrRange {
		t.Errorf("Add: %v", e)
	}
	p.d.Restore()
	p.hold(t)
}

// TestCut: wherever the power fails in a Commit, all of what was done since the last one is there in a space that is opened anew, or nothing of it.
func TestCut(t *testing.T) {
	t.Parallel()
	r := rand.New(rand.NewSource(8))
	p := begin(t, 500, 3)
	want(t, p.s.Commit(), api.OK)
	contents := slices.Concat(spread(r, 150), narrow("101", 30))
	for range 200 {
		kept := p.m.clone()
		for range r.Intn(12) {
			switch r.Intn(4) {
			case 0:
				p.remove(t, p.some(r))
			case 1:
				p.set(t, p.drawnSet(r))
			default:
				p.add(t, contents[r.Intn(len(contents))])
			}
		}
		p.d.Cut(r.Intn(50))
		done := p.s.Commit()
		p.d.Restore()
		var e api.Errno
		p.s, e = space.Open(p.d, 3)
		want(t, e, api.OK)
		p.n = nodes.At(p.s, p.m.dir)
		if l, e := p.n.List(); e != api.OK || done != api.OK && !allSame(l, p.m.all()) {
			p.m = kept
		}
		p.hold(t)
	}
}
