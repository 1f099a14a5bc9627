package refs_test

import (
	"fmt"
	"math"
	"slices"
	"strings"
	"testing"

	"aumbry/api"
	"aumbry/nodes"
	"aumbry/refs"
	"aumbry/slot"
	"aumbry/space"
	"aumbry/term"
)

// TestExamples: those of the chapter.
func TestExamples(t *testing.T) {
	for _, between := range []bool{false, true} {
		p := begin(t, 64, 2)
		x := p.keep(t, "s(a)")
		if l, e := p.r.Waiting(); len(l) != 0 || e != api.OK {
			t.Errorf("Waiting: %v, %v", l, e)
		}
		want(t, p.drop(t, x), api.OK)
		a, found, e := p.r.Has(read(t, "a"))
		if !found || e != api.OK {
			t.Fatalf("Has: %v, %v", found, e)
		}
		if l, e := p.r.Waiting(); !slices.Equal(l, []api.Addr{x}) || e != api.OK {
			t.Errorf("Waiting: %v, %v", l, e)
		}
		if kid, _, _ := p.r.Nodes().Get(a); kid.Count != 1 || kid.Queued {
			t.Errorf("the kid is %v", kid)
		}
		if between {
			if y := p.keep(t, "s(a)"); y != x {
				t.Errorf("%x, then %x", x, y)
			}
			if out, done := p.reclaim(t, 1); out != 0 || !done {
				t.Errorf("Reclaim: %d, %v", out, done)
			}
			if b, _, _ := p.r.Has(read(t, "a")); b != a {
				t.Errorf("the kid is at %x, then %x", a, b)
			}
			continue
		}
		if out, done := p.reclaim(t, 1); out != 1 || done {
			t.Errorf("Reclaim: %d, %v", out, done)
		}
		if l, e := p.r.Waiting(); !slices.Equal(l, []api.Addr{a}) || e != api.OK {
			t.Errorf("Waiting: %v, %v", l, e)
		}
		if out, done := p.reclaim(t, 1); out != 1 || !done {
			t.Errorf("Reclaim: %d, %v", out, done)
		}
		p.holdAll(t)
	}
}

// TestNew: an empty file of nodes, and behind it the page of an empty list; each the free page with the least number (P17.1).
func TestNew(t *testing.T) {
	_, s := opened(t, 64, 2)
	for at := 35; at < 61; at += 3 {
		dir, list, e := refs.New(s)
		if dir != at || list != at+2 || e != api.OK {
			t.Fatalf("New: %d, %d, %v, want %d, %d", dir, list, e, at, at+2)
		}
		if data, e := s.Get(list); data != "\x05"+strings.Repeat("\x00", 255) || e != api.OK {
			t.Errorf("the list's page is %q, %v", data, e)
		}
		r := refs.At(s, dir, list)
		if l, e := r.Waiting(); len(l) != 0 || e != api.OK {
			t.Errorf("Waiting: %v, %v", l, e)
		}
		if out, done, e := r.Reclaim(9); out != 0 || !done || e != api.OK {
			t.Errorf("Reclaim: %d, %v, %v", out, done, e)
		}
		if l, e := r.Nodes().List(); len(l) != 0 || e != api.OK {
			t.Errorf("the nodes are %v, %v", l, e)
		}
		if l, e := r.Nodes().Pages(); !slices.Equal(l, []int{at, at + 1}) || e != api.OK {
			t.Errorf("the nodes' pages are %v, %v", l, e)
		}
	}
	// Two pages are free, then one, then none; what was undone is as it was.
	want(t, s.Commit(), api.OK)
	for range 3 {
		taken := s.Taken()
		if dir, list, e := refs.New(s); dir != 0 || list != 0 || e != api.ErrFull {
			t.Errorf("New on a full disk: %d, %d, %v", dir, list, e)
		}
		s.Undo()
		if !slices.Equal(s.Taken(), taken) {
			t.Errorf("taken are %v, want %v", s.Taken(), taken)
		}
		_, _ = s.Alloc()
		want(t, s.Commit(), api.OK)
	}
}

// failing: all calls that ask for these answer this error, and nothing beside it.
func failing(t *testing.T, r *refs.Refs, x api.Term, a api.Addr, errno api.Errno) {
	t.Helper()
	failingTerm(t, r, x, errno)
	failingAddr(t, r, a, errno)
	failingList(t, r, errno)
}

func failingTerm(t *testing.T, r *refs.Refs, x api.Term, errno api.Errno) {
	t.Helper()
	if a, e := r.Keep(x); a != 0 || e != errno {
		t.Errorf("Keep(%v): %x, %v, want %v", x, a, e, errno)
	}
	if a, found, e := r.Has(x); a != 0 || found || e != errno {
		t.Errorf("Has(%v): %x, %v, %v, want %v", x, a, found, e, errno)
	}
}

func failingAddr(t *testing.T, r *refs.Refs, a api.Addr, errno api.Errno) {
	t.Helper()
	if e := r.Hold(a); e != errno {
		t.Errorf("Hold(%x): %v, want %v", a, e, errno)
	}
	if e := r.Drop(a); e != errno {
		t.Errorf("Drop(%x): %v, want %v", a, e, errno)
	}
	if x, e := r.Load(a); len(x) != 0 || e != errno {
		t.Errorf("Load(%x): %v, %v, want %v", a, x, e, errno)
	}
}

func failingList(t *testing.T, r *refs.Refs, errno api.Errno) {
	t.Helper()
	for _, n := range []int{0, 1, -1, math.MaxInt, math.MinInt} {
		if out, done, e := r.Reclaim(n); out != 0 || done || e != errno {
			t.Errorf("Reclaim(%d): %d, %v, %v, want %v", n, out, done, e, errno)
		}
	}
	if l, e := r.Waiting(); len(l) != 0 || e != errno {
		t.Errorf("Waiting: %x, %v, want %v", l, e, errno)
	}
}

// TestNil: of a nil space there is nothing, and that answers ErrNil, whatever else is wrong, and nothing beside it; nil and empty terms are one (P17.1, R2, R3).
func TestNil(t *testing.T) {
	if dir, list, e := refs.New(nil); dir != 0 || list != 0 || e != api.ErrNil {
		t.Errorf("New: %d, %d, %v", dir, list, e)
	}
	none, e := space.Open(nil, 1)
	want(t, e, api.ErrNil)
	for _, at := range []int{0, 35, -1, math.MaxInt} {
		if refs.At(nil, at, at+1) != nil || refs.At(none, at, at+1) != nil {
			t.Error("something in a nil space")
		}
	}
	for _, r := range []*refs.Refs{nil, refs.At(nil, 35, 37)} {
		failing(t, r, read(t, "s(a)"), 65537, api.ErrNil)
		failing(t, r, nil, 0, api.ErrNil)
		failing(t, r, make(api.Term, 65), 65536, api.ErrNil)
		if r.Nodes() != nil {
			t.Error("nodes of nothing")
		}
	}
	p := begin(t, 64, 2)
	failingTerm(t, p.r, nil, api.ErrForm)
	failingTerm(t, p.r, api.Term{}, api.ErrForm)
	failingTerm(t, p.r, make(api.Term, 0, 9), api.ErrForm)
	p.holdAll(t)
}

// TestNodes: the file of nodes is the one that the terms lie in, whoever asks for it.
func TestNodes(t *testing.T) {
	p := begin(t, 64, 2)
	before := p.r.Nodes()
	a := p.keep(t, "f(X,a)")
	for _, n := range []*nodes.Nodes{before, p.r.Nodes(), nodes.At(p.s, 35), refs.At(p.s, 35, 37).Nodes(), refs.At(p.s, 35, 0).Nodes()} {
		x, is, e := n.Get(a)
		if !is || x.Name != "f" || len(x.Kids) != 2 || x.Count != 1 || e != api.OK {
			t.Errorf("Get: %v, %v, %v", x, is, e)
		}
	}
}

// TestTerms: what is no term Keep and Has refuse by term.Check's error; nothing has changed.
func TestTerms(t *testing.T) {
	p := begin(t, 64, 2)
	p.keep(t, "f(a,X)")
	p.commit(t)
	writes := len(p.d.Log())
	big := append(read(t, tower(64, "s", "a"))[:63:63], api.Cell{Name: "s", Arity: 1}, api.Cell{Name: "a"})
	bad := slices.Clone(big)
	bad[0].Name = "Aa"
	for _, c := range []struct {
		x    api.Term
		want api.Errno
	}{
		{big, api.ErrBig},
		{bad, api.ErrBig},
		{make(api.Term, 65), api.ErrBig},
		{bad[:64], api.ErrName},
		{api.Term{{Name: ""}}, api.ErrName},
		{api.Term{{Name: "abcdefghi"}}, api.ErrName},
		{api.Term{{Name: "1", Arity: 5}}, api.ErrName},
		{api.Term{{Name: "a\x00"}}, api.ErrName},
		{api.Term{{Name: "f", Arity: 2}, {Name: "a"}, {Name: "a b"}}, api.ErrName},
		{api.Term{{Name: "f", Arity: 5}, {Name: "Aa"}}, api.ErrArity},
		{api.Term{{Name: "f", Arity: -1}}, api.ErrArity},
		{api.Term{{Name: "X", Arity: 1}, {Name: "a"}}, api.ErrArity},
		{api.Term{{Name: "f", Arity: 2}, {Name: "a"}}, api.ErrForm},
		{api.Term{{Name: "f", Arity: 1}}, api.ErrForm},
		{api.Term{{Name: "a"}, {Name: "a"}}, api.ErrForm},
		{big[:64], api.ErrForm},
	} {
		want(t, term.Check(c.x), c.want)
		failingTerm(t, p.r, c.x, c.want)
		// It is refused ahead of what lies on the disk.
		failingTerm(t, refs.At(p.s, 60, 61), c.x, c.want)
	}
	p.holdAll(t)
	want(t, p.s.Commit(), api.OK)
	if len(p.d.Log()) != writes {
		t.Error("something was written")
	}
}

// TestKeep: each part is there once, with the names and the counts that it has to have (P17.2).
func TestKeep(t *testing.T) {
	for _, c := range []struct {
		keep   []string
		counts map[string]int
	}{
		{[]string{"a"}, map[string]int{"a": 1}},
		{[]string{"X"}, map[string]int{"X": 1}},
		{[]string{"a", "a", "a"}, map[string]int{"a": 3}},
		{[]string{"s(a)"}, map[string]int{"s(a)": 1, "a": 1}},
		{[]string{"s(a)", "s(a)"}, map[string]int{"s(a)": 2, "a": 1}},
		{[]string{"s(a)", "a"}, map[string]int{"s(a)": 1, "a": 2}},
		{[]string{"a", "s(a)"}, map[string]int{"s(a)": 1, "a": 2}},
		{[]string{"f(a,a)"}, map[string]int{"f(a,a)": 1, "a": 2}},
		{[]string{"f(a,b)", "f(b,a)"}, map[string]int{"f(a,b)": 1, "f(b,a)": 1, "a": 2, "b": 2}},
		{[]string{"h(a,X,a,a)"}, map[string]int{"h(a,X,a,a)": 1, "a": 3, "X": 1}},
		{[]string{"g(s(a),s(a))"}, map[string]int{"g(s(a),s(a))": 1, "s(a)": 2, "a": 1}},
		{[]string{"g(s(a),a)", "s(s(a))"}, map[string]int{"g(s(a),a)": 1, "s(s(a))": 1, "s(a)": 2, "a": 2}},
		{[]string{"a(a)", "a(a,a)", "a"}, map[string]int{"a": 4, "a(a)": 1, "a(a,a)": 1}},
		{[]string{"s(X)", "s(Y)", "s(x)"}, map[string]int{"s(X)": 1, "s(Y)": 1, "s(x)": 1, "X": 1, "Y": 1, "x": 1}},
	} {
		p := begin(t, 64, 2)
		for _, s := range c.keep {
			a := p.keep(t, s)
			p.ask(t, a, s)
			p.holdAll(t)
		}
		l, e := p.r.Nodes().List()
		if len(l) != len(c.counts) || e != api.OK {
			t.Errorf("%v: %v, %v", c.keep, l, e)
		}
		for _, x := range l {
			if s, e := p.r.Load(x.At); x.Count != c.counts[text(s)] || x.Queued || x.Next != 0 || e != api.OK {
				t.Errorf("%v: %s has the count %d, %v", c.keep, text(s), x.Count, e)
			}
		}
	}
}

// TestOrder: arguments come ahead of what stands above them, the left ones first: so they lie in the file, and so they get their second numbers.
func TestOrder(t *testing.T) {
	p := begin(t, 64, 2)
	p.keep(t, "g(s(a),f(b,X))")
	b, e := slot.Unpack(pageOf(t, p.s, 36))
	want(t, e, api.OK)
	var names []string
	for _, x := range b.Nodes {
		names = append(names, x.Name)
	}
	// The sixth one has cut the bucket: what is left is in order.
	order := []string{"a", "s", "b", "X", "f", "g"}
	if !slices.IsSortedFunc(names, func(x, y string) int { return slices.Index(order, x) - slices.Index(order, y) }) || len(names) == 0 {
		t.Errorf("the nodes lie as %v", names)
	}
	for _, two := range twins()[:4] {
		for _, s := range []string{"g(%s,%s)", "f(s(%s),%s,s(%[1]s),s(%[2]s))", "g(s(s(%s)),g(%s,%[2]s))"} {
			s = fmt.Sprintf(s, two[0], two[1])
			p := begin(t, 64, 2)
			a := p.keep(t, s)
			p.ask(t, a, s)
			p.holdAll(t)
			for i, name := range two {
				if b, found, e := p.r.Has(read(t, name)); b%65536 != api.Addr(i+1) || !found || e != api.OK {
					t.Errorf("%s: %s is at %x, %v, %v", s, name, b, found, e)
				}
			}
		}
	}
}

func pageOf(t *testing.T, s *space.Space, at int) string {
	t.Helper()
	data, e := s.Get(at)
	want(t, e, api.OK)
	return data
}

// TestTwins: terms whose nodes have one hash are told apart, and the least second number is used again.
func TestTwins(t *testing.T) {
	for _, two := range twins()[:4] {
		p := begin(t, 64, 2)
		x := p.keep(t, two[0])
		y := p.keep(t, "s("+two[1]+")")
		p.ask(t, x, two[1])
		p.holdAll(t)
		want(t, p.drop(t, x), api.OK)
		p.reclaim(t, 9)
		p.ask(t, x, two[0])
		p.holdAll(t)
		if again := p.keep(t, "f("+two[1]+","+two[0]+")"); again == y || p.m.address(t, two[0]) != x {
			t.Error("another address")
		}
		p.holdAll(t)
	}
}

// TestHold: ErrNone, where there is no node; ErrMany at the greatest count; else one more (P17.2).
func TestHold(t *testing.T) {
	p := begin(t, 64, 2)
	x := p.keep(t, "s(a)")
	a := p.m.address(t, "a")
	for _, b := range []api.Addr{0, 1, 65536, 65537, x + 1, a + 1, x - 1, x + 65536, x + 1<<48, 1 << 48, math.MaxUint64} {
		failingAddr(t, p.r, b, api.ErrNone)
	}
	p.holdAll(t)
	for _, b := range []api.Addr{x, a, x, a, a} {
		want(t, p.hold(t, b), api.OK)
		p.holdAll(t)
	}
	// One that waits may be held: it waits still, till it is its turn.
	y := p.keep(t, "b")
	want(t, p.drop(t, y), api.OK)
	want(t, p.hold(t, y), api.OK)
	p.holdAll(t)
	if l, e := p.r.Waiting(); !slices.Equal(l, []api.Addr{y}) || e != api.OK {
		t.Errorf("Waiting: %x, %v", l, e)
	}
	if out, done := p.reclaim(t, 1); out != 0 || !done {
		t.Errorf("Reclaim: %d, %v", out, done)
	}
	p.holdAll(t)
}

// counted sets a node's count, as no calls could that many.
func (p *pair) counted(t *testing.T, a api.Addr, n int) {
	t.Helper()
	for _, file := range []*nodes.Nodes{p.r.Nodes(), p.m.n} {
		x, _, e := file.Get(a)
		want(t, e, api.OK)
		x.Count = n
		want(t, file.Set(x), api.OK)
	}
}

// TestMost: at the greatest count Hold answers ErrMany, and so does a Keep that would count one more; then nothing has changed. Drop goes on.
func TestMost(t *testing.T) {
	const most = 1<<32 - 1
	p := begin(t, 64, 2)
	x := p.keep(t, "s(a)")
	a := p.m.address(t, "a")
	p.counted(t, a, most-1)
	want(t, p.hold(t, a), api.OK)
	for range 2 {
		want(t, p.hold(t, a), api.ErrMany)
		for _, s := range []string{"a", "g(s(s(a)),a)", "f(b,s(b),a)", "f(a,c)"} {
			if b, e := p.r.Keep(read(t, s)); b != 0 || e != api.ErrMany {
				t.Errorf("Keep(%s): %x, %v", s, b, e)
			}
		}
		p.holdPages(t)
	}
	// What is there already counts nothing more for its arguments.
	p.keep(t, "s(a)")
	p.keep(t, "s(s(a))")
	p.holdPages(t)
	want(t, p.drop(t, a), api.OK)
	p.keep(t, "t(a)")
	want(t, p.hold(t, a), api.ErrMany)
	p.holdPages(t)
	// Two more are one too many.
	want(t, p.drop(t, a), api.OK)
	if b, e := p.r.Keep(read(t, "g(a,a)")); b != 0 || e != api.ErrMany {
		t.Errorf("Keep: %x, %v", b, e)
	}
	p.holdPages(t)
	p.counted(t, x, 1)
	want(t, p.drop(t, x), api.OK)
	p.holdPages(t)
}

// TestDrop: ErrNone, where there is no node; ErrRange at the count 0, waiting or not; else one less; what comes to 0 waits, once, ahead of the others (P17.2).
func TestDrop(t *testing.T) {
	p := begin(t, 64, 2)
	a, b, c := p.keep(t, "a"), p.keep(t, "b"), p.keep(t, "c")
	wait := func(l ...api.Addr) {
		t.Helper()
		p.holdAll(t)
		if w, e := p.r.Waiting(); !slices.Equal(w, l) || e != api.OK {
			t.Errorf("Waiting: %x, %v, want %x", w, e, l)
		}
		first := api.Addr(0)
		if len(l) > 0 {
			first = l[0]
		}
		if data := pageOf(t, p.s, 37); data != listPage(first, len(l)) {
			t.Errorf("the list's page is %q", data)
		}
		for i, at := range l {
			next := append(slices.Clone(l), 0)[i+1]
			if x, _, e := p.r.Nodes().Get(at); !x.Queued || x.Next != next || e != api.OK {
				t.Errorf("%v waits, %v; the next one is %x", x, e, next)
			}
		}
	}
	wait()
	want(t, p.drop(t, b), api.OK)
	wait(b)
	want(t, p.drop(t, b), api.ErrRange)
	wait(b)
	want(t, p.drop(t, a), api.OK)
	wait(a, b)
	want(t, p.hold(t, c), api.OK)
	want(t, p.drop(t, c), api.OK)
	wait(a, b)
	want(t, p.drop(t, c), api.OK)
	wait(c, a, b)
	// What is held again and let go keeps its place.
	want(t, p.hold(t, b), api.OK)
	p.keep(t, "a")
	wait(c, a, b)
	want(t, p.drop(t, b), api.OK)
	wait(c, a, b)
	p.reclaim(t, 1)
	wait(a, b)
	want(t, p.drop(t, c), api.ErrNone)
	p.reclaim(t, 1)
	wait(b)
	want(t, p.drop(t, a), api.OK)
	wait(a, b)
	if _, added, e := p.r.Nodes().Add("d", nil); !added || e != api.OK {
		t.Fatal(added, e)
	}
	d, _, _ := p.r.Has(read(t, "d"))
	want(t, p.r.Drop(d), api.ErrRange)
	if out, done, e := p.r.Reclaim(9); out != 2 || !done || e != api.OK {
		t.Errorf("Reclaim: %d, %v, %v", out, done, e)
	}
	want(t, p.r.Drop(d), api.ErrRange)
}

// TestHas: the address of a term's node, also of a part; nothing where the whole isn't there, whatever its parts (P17.3).
func TestHas(t *testing.T) {
	p := begin(t, 64, 2)
	x := p.keep(t, "g(s(a),f(X,b,a))")
	p.commit(t)
	writes := len(p.d.Log())
	for _, s := range []string{"a", "b", "X", "s(a)", "f(X,b,a)", "g(s(a),f(X,b,a))", "c", "x", "Y", "s", "s(b)", "s(X)", "f(X,b)", "f(X,a,b)", "f(b,X,a)", "f(X,b,a,a)", "g", "g(a,b)", "s(s(a))", "s(g(s(a),f(X,b,a)))", "g(f(X,b,a),s(a))", "g(s(c),f(X,b,a))", "g(s(a),f(X,b,c))"} {
		p.ask(t, x, s)
		p.holdAll(t)
	}
	want(t, p.drop(t, x), api.OK)
	p.ask(t, x, "g(s(a),f(X,b,a))")
	p.reclaim(t, 1)
	p.ask(t, x, "g(s(a),f(X,b,a))")
	p.ask(t, x, "s(a)")
	p.s.Undo()
	want(t, p.s.Commit(), api.OK)
	if len(p.d.Log()) != writes {
		t.Error("a look has written something")
	}
}

// over adds a node over others, as Keep doesn't where a term is too big.
func over(t *testing.T, r *refs.Refs, name string, kids ...api.Addr) api.Addr {
	t.Helper()
	a, _, e := r.Nodes().Add(name, kids)
	want(t, e, api.OK)
	return a
}

// TestLoad: ErrNone, where there is no node; ErrBig of a term with more than 64 cells, however many more; else the term (P17.3).
func TestLoad(t *testing.T) {
	p := begin(t, 200, 5)
	x := p.keep(t, tower(64, "s", "a"))
	p.ask(t, x, tower(63, "s", "a"))
	p.ask(t, p.m.address(t, tower(7, "s", "a")), "s(s(a))")
	y := p.keep(t, wide(0))
	p.ask(t, y, wide(0))
	for _, a := range []api.Addr{0, 1, 65536, x + 1, y - 1, x + 1<<48, math.MaxUint64} {
		p.ask(t, a, "a")
	}
	a := p.m.address(t, "a")
	seven := over(t, p.r, "f", a, a, over(t, p.r, "s", over(t, p.r, "g", a, a)))
	for _, c := range []struct {
		a     api.Addr
		cells int
	}{
		{seven, 7}, {over(t, p.r, "t", x), 65}, {over(t, p.r, "f", x, x), 129}, {over(t, p.r, "f", a, x), 66}, {over(t, p.r, "f", x, y), 129}, {over(t, p.r, "f", y, seven), 72},
		{over(t, p.r, "f", p.m.address(t, tower(62, "s", "a")), a), 64}, {over(t, p.r, "f", a, p.m.address(t, tower(62, "s", "a"))), 64}, {over(t, p.r, "f", a, p.m.address(t, tower(63, "s", "a"))), 65}, {over(t, p.r, "f", seven, seven, seven, over(t, p.r, "h", seven, seven, seven, seven)), 51},
	} {
		l, e := p.r.Load(c.a)
		if c.cells > 64 && (len(l) != 0 || e != api.ErrBig) || c.cells <= 64 && (len(l) != c.cells || e != api.OK) {
			t.Errorf("Load of a term of %d cells: %v, %v", c.cells, l, e)
		}
	}
	// Each one has four times the cells of that below it.
	b := a
	for i := range 60 {
		b = over(t, p.r, "f", b, b, b, b)
		if l, e := p.r.Load(b); i < 2 && (len(l) != []int{5, 21}[i] || e != api.OK) || i >= 2 && (len(l) != 0 || e != api.ErrBig) {
			t.Errorf("Load: %v, %v", l, e)
		}
	}
}

// TestReclaim: the first ones wait no more, those that nobody refers to are taken out, and what they had below them waits then, the last kid first (P17.4).
func TestReclaim(t *testing.T) {
	p := begin(t, 64, 2)
	wait := func(l ...string) {
		t.Helper()
		p.holdAll(t)
		var addrs []api.Addr
		for _, s := range l {
			addrs = append(addrs, p.m.address(t, s))
		}
		if w, e := p.r.Waiting(); !slices.Equal(w, addrs) || e != api.OK {
			t.Errorf("Waiting: %x, %v, want %v", w, e, l)
		}
	}
	step := func(n, wantOut int, wantDone bool) {
		t.Helper()
		if out, done := p.reclaim(t, n); out != wantOut || done != wantDone {
			t.Errorf("Reclaim(%d): %d, %v", n, out, done)
		}
	}
	step(0, 0, true)
	step(1, 0, true)
	step(math.MaxInt, 0, true)
	x := p.keep(t, "h(a,f(a,b),c,c)")
	p.keep(t, "c")
	y := p.keep(t, "s(a)")
	step(9, 0, true)
	want(t, p.drop(t, x), api.OK)
	want(t, p.drop(t, y), api.OK)
	wait("s(a)", "h(a,f(a,b),c,c)")
	step(0, 0, false)
	step(-1, 0, false)
	step(math.MinInt, 0, false)
	wait("s(a)", "h(a,f(a,b),c,c)")
	step(1, 1, false)
	wait("h(a,f(a,b),c,c)")
	step(1, 1, false)
	// a and c have others that refer to them.
	wait("f(a,b)")
	step(1, 1, false)
	wait("b", "a")
	// What is held again is let be.
	p.keep(t, "b")
	step(1, 0, false)
	wait("a")
	step(1, 1, true)
	wait()
	// Both arguments are one: it waits once, behind it comes nothing.
	z := p.keep(t, "g(d,d)")
	want(t, p.drop(t, z), api.OK)
	step(1, 1, false)
	wait("d")
	u := p.keep(t, "k(d,e,X,d)")
	wait("d")
	want(t, p.drop(t, u), api.OK)
	wait("k(d,e,X,d)", "d")
	step(1, 1, false)
	wait("X", "e", "d")
	step(math.MaxInt, 3, true)
	wait()
	if l, e := p.r.Nodes().List(); len(l) != 2 || e != api.OK {
		t.Errorf("left are %v, %v", l, e)
	}
}

// TestLooks: calls that only look, those that are refused, and a Reclaim of nothing write nothing.
func TestLooks(t *testing.T) {
	p := begin(t, 64, 1)
	x := p.keep(t, "g(s(a),X)")
	idle := func() {
		t.Helper()
		p.commit(t)
		writes := len(p.d.Log())
		p.ask(t, x, "s(a)")
		p.ask(t, x+1, "b")
		p.holdAll(t)
		failingTerm(t, p.r, nil, api.ErrForm)
		failingAddr(t, p.r, x+1, api.ErrNone)
		p.reclaim(t, 0)
		p.reclaim(t, -5)
		if len(p.m.queue) == 0 {
			p.reclaim(t, 5)
		} else {
			want(t, p.drop(t, x), api.ErrRange)
		}
		want(t, p.s.Commit(), api.OK)
		if len(p.d.Log()) != writes {
			t.Error("something was written")
		}
	}
	idle()
	want(t, p.drop(t, x), api.OK)
	idle()
}

// TestLetGoTwice: who drops what he doesn't hold has another one's count. Then nothing is promised, but that the calls end, that no others wait for ever, and that none of the counts is below 0.
func TestLetGoTwice(t *testing.T) {
	for _, s := range []string{"s(a)", "f(a,a)", "g(s(a),b)", "s(s(a))", "g(a,s(a))"} {
		p := begin(t, 64, 2)
		x := p.keep(t, s)
		other := p.keep(t, "f(c,d)")
		a := p.m.address(t, "a")
		for p.r.Drop(a) == api.OK {
		}
		if _, done, e := p.r.Reclaim(9); !done || e != api.OK {
			t.Errorf("%s: %v, %v", s, done, e)
		}
		failingAddr(t, p.r, a, api.ErrNone)
		if l, e := p.r.Load(x); len(l) != 0 || e != api.ErrNone {
			t.Errorf("%s: Load: %v, %v", s, l, e)
		}
		want(t, p.r.Drop(x), api.OK)
		want(t, p.r.Drop(other), api.OK)
		if _, done, e := p.r.Reclaim(99); !done || e != api.OK {
			t.Errorf("%s: %v, %v", s, done, e)
		}
		if l, e := p.r.Nodes().List(); len(l) != 0 || e != api.OK {
			t.Errorf("%s: left are %v, %v", s, l, e)
		}
	}
	// A kid that waits already keeps its place when its parent is released.
	p := begin(t, 64, 2)
	x := p.keep(t, "f(a,a,b)")
	a := p.m.address(t, "a")
	want(t, p.r.Drop(a), api.OK)
	want(t, p.r.Drop(a), api.OK)
	want(t, p.r.Hold(x), api.OK)
	want(t, p.r.Drop(x), api.OK)
	want(t, p.r.Drop(x), api.OK)
	for _, wantOut := range []int{1, 2} {
		if out, done, e := p.r.Reclaim(wantOut); out != wantOut || done != (wantOut == 2) || e != api.OK {
			t.Errorf("Reclaim(%d): %d, %v, %v", wantOut, out, done, e)
		}
	}
}

// TestSpaceErrors: an error of the space is answered as it is met, and nothing beside it (R2).
func TestSpaceErrors(t *testing.T) {
	_, s := opened(t, 64, 2)
	for at, errno := range map[int]api.Errno{-1: api.ErrRange, 0: api.ErrRange, 34: api.ErrRange, 64: api.ErrRange, math.MaxInt: api.ErrRange, 35: api.ErrNone, 63: api.ErrNone} {
		failing(t, refs.At(s, at, at), read(t, "s(a)"), 65537, errno)
	}
}

// TestOtherPages: of pages that are none of these nothing is promised but what costs nothing: that the calls end, and don't panic.
func TestOtherPages(t *testing.T) {
	for _, front := range []string{"", "\x03", "\x04", "\x05", "\x05\x00\x00\x00\x00\x00\x00\x00\x00\x00\x01", "\x05\xff\xff\xff\xff\xff\xff\xff\xff\xff\xff", "\x05\x00\x00\x00\x00\x00\x01", "\x06"} {
		p := begin(t, 64, 2)
		p.keep(t, "s(a)")
		at, e := p.s.Alloc()
		want(t, e, api.OK)
		want(t, p.s.Put(at, front+strings.Repeat("\x00", 256-len(front))), api.OK)
		for _, r := range []*refs.Refs{refs.At(p.s, 35, at), refs.At(p.s, at, 37), refs.At(p.s, at, at), refs.At(p.s, 37, 35), refs.At(p.s, 36, 36)} {
			a, _ := r.Keep(read(t, "s(b)"))
			r.Hold(a)
			r.Drop(a)
			r.Drop(a)
			r.Load(a)
			r.Has(read(t, "s(b)"))
			r.Waiting()
			r.Reclaim(9)
		}
		if front == "" || front[0] != 5 {
			failingList(t, refs.At(p.s, 35, at), api.ErrForm)
		}
	}
}

// TestFull: a disk without a free page refuses what takes one, and behind Undo all is as it was; what takes none goes on.
func TestFull(t *testing.T) {
	t.Parallel()
	for i := range 26 {
		p := begin(t, 64, 3)
		for range i {
			_, e := p.s.Alloc()
			want(t, e, api.OK)
			_, e = p.m.s.Alloc()
			want(t, e, api.OK)
		}
		full := 0
		var there []api.Addr
		for j := range 40 {
			p.commit(t)
			taken := p.s.Taken()
			a, e := p.r.Keep(read(t, wide(j)))
			p.s.Undo()
			if e == api.OK {
				there = append(there, p.keep(t, wide(j)))
			} else if e != api.ErrFull || a != 0 || !slices.Equal(taken, p.s.Taken()) {
				t.Fatalf("Keep: %x, %v, then taken %v, want %v", a, e, p.s.Taken(), taken)
			} else {
				full++
			}
			p.holdAll(t)
		}
		if full == 0 {
			t.Error("the disk wasn't full")
		}
		for _, a := range there {
			want(t, p.hold(t, a), api.OK)
			want(t, p.drop(t, a), api.OK)
			want(t, p.drop(t, a), api.OK)
		}
		for done := false; !done; {
			_, done = p.reclaim(t, 50)
			p.holdAll(t)
		}
	}
}
