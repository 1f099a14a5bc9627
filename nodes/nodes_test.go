package nodes_test

import (
	"fmt"
	"math"
	"slices"
	"strings"
	"testing"

	"aumbry/api"
	"aumbry/nodes"
	"aumbry/slot"
	"aumbry/space"
)

// TestExamples: those of the chapter.
func TestExamples(t *testing.T) {
	_, s := opened(t, 64, 2)
	dir, e := nodes.New(s)
	want(t, e, api.OK)
	n := nodes.At(s, dir)
	add := func(name string, kids []api.Addr, wantAdded bool) api.Addr {
		t.Helper()
		a, added, e := n.Add(name, kids)
		if added != wantAdded || e != api.OK {
			t.Fatalf("Add(%s, %v) = %d, %v, %v", name, kids, a, added, e)
		}
		return a
	}
	x := add("a", nil, true)
	if h, _ := slot.Hash("a", nil); x != api.Addr(h)*65536+1 {
		t.Errorf("the first address with the hash %d is %d", h, x)
	}
	if again := add("a", nil, false); again != x {
		t.Errorf("%d, then %d", x, again)
	}
	y := add("s", []api.Addr{x}, true)
	if y == x {
		t.Errorf("two nodes at %d", x)
	}
	if found, e := n.Remove(x); !found || e != api.OK {
		t.Errorf("Remove: %v, %v", found, e)
	}
	if again := add("a", []api.Addr{}, true); again != x {
		t.Errorf("%d, then %d", x, again)
	}
	if node, found, e := n.Get(y); !same(node, api.Node{At: y, Name: "s", Kids: []api.Addr{x}}) || !found || e != api.OK {
		t.Errorf("Get: %v, %v, %v", node, found, e)
	}
}

// TestNew: a directory with one place, at which an empty bucket's page stands; each the free page with the least number.
func TestNew(t *testing.T) {
	_, s := opened(t, 64, 2)
	for at := 35; at < 63; at += 2 {
		dir, e := nodes.New(s)
		if dir != at || e != api.OK {
			t.Fatalf("New: %d, %v, want %d", dir, e, at)
		}
		blank := strings.Repeat("\x00", 252)
		if data, e := s.Get(at); data != "\x04\x00\x00"+string([]byte{byte(at + 1)})+blank || e != api.OK {
			t.Errorf("the directory's page is %q, %v", data, e)
		}
		if data, e := s.Get(at + 1); data != "\x03\x00\x00\x00"+blank || e != api.OK {
			t.Errorf("the bucket's page is %q, %v", data, e)
		}
		n := nodes.At(s, dir)
		if l, e := n.List(); len(l) != 0 || e != api.OK {
			t.Errorf("List: %v, %v", l, e)
		}
		if d, e := n.Depth(); d != 0 || e != api.OK {
			t.Errorf("Depth: %v, %v", d, e)
		}
		if l, e := n.Pages(); !slices.Equal(l, []int{at, at + 1}) || e != api.OK {
			t.Errorf("Pages: %v, %v", l, e)
		}
	}
	// One page is free, then none; what was undone is as it was.
	want(t, s.Commit(), api.OK)
	for range 2 {
		taken := s.Taken()
		if dir, e := nodes.New(s); dir != 0 || e != api.ErrFull {
			t.Errorf("New on a full disk: %d, %v", dir, e)
		}
		s.Undo()
		if !slices.Equal(s.Taken(), taken) {
			t.Errorf("taken are %v, want %v", s.Taken(), taken)
		}
		_, _ = s.Alloc()
		want(t, s.Commit(), api.OK)
	}
}

// TestNil: a nil space has no file, and a nil file answers ErrNil, whatever else is wrong, and nothing beside it (R2).
func TestNil(t *testing.T) {
	if dir, e := nodes.New(nil); dir != 0 || e != api.ErrNil {
		t.Errorf("New: %d, %v", dir, e)
	}
	none, e := space.Open(nil, 1)
	want(t, e, api.ErrNil)
	for _, dir := range []int{0, 35, -1, math.MaxInt} {
		if nodes.At(nil, dir) != nil || nodes.At(none, dir) != nil {
			t.Error("a file of a nil space")
		}
	}
	for _, n := range []*nodes.Nodes{nil, nodes.At(nil, 35)} {
		failing(t, n, content{"a", nil}, 65537, api.ErrNil)
		failing(t, n, content{"Aa", make([]api.Addr, 5)}, 0, api.ErrNil)
	}
}

// failing: all calls answer this error, and nothing beside it.
func failing(t *testing.T, n *nodes.Nodes, c content, at api.Addr, errno api.Errno) {
	t.Helper()
	if a, found, e := n.Find(c.name, c.kids); a != 0 || found || e != errno {
		t.Errorf("Find: %d, %v, %v, want %v", a, found, e, errno)
	}
	if x, found, e := n.Get(at); !same(x, api.Node{}) || found || e != errno {
		t.Errorf("Get: %v, %v, %v, want %v", x, found, e, errno)
	}
	if a, added, e := n.Add(c.name, c.kids); a != 0 || added || e != errno {
		t.Errorf("Add: %d, %v, %v, want %v", a, added, e, errno)
	}
	if e := n.Set(api.Node{At: at, Name: c.name, Kids: c.kids}); e != errno {
		t.Errorf("Set: %v, want %v", e, errno)
	}
	if found, e := n.Remove(at); found || e != errno {
		t.Errorf("Remove: %v, %v, want %v", found, e, errno)
	}
	if l, e := n.List(); len(l) != 0 || e != errno {
		t.Errorf("List: %v, %v, want %v", l, e, errno)
	}
	if d, e := n.Depth(); d != 0 || e != errno {
		t.Errorf("Depth: %v, %v, want %v", d, e, errno)
	}
	if l, e := n.Pages(); len(l) != 0 || e != errno {
		t.Errorf("Pages: %v, %v, want %v", l, e, errno)
	}
}

// TestContents: what is no content Find and Add refuse by slot.Hash's error, ahead of any other; nothing has changed.
func TestContents(t *testing.T) {
	p := begin(t, 64, 2)
	a := p.add(t, content{"a", nil})
	want(t, p.s.Commit(), api.OK)
	writes := len(p.d.Log())
	free := nodes.At(p.s, 60)
	for _, c := range []struct {
		name string
		kids []api.Addr
		want api.Errno
	}{
		{"", nil, api.ErrName},
		{"Aa", nil, api.ErrName},
		{"aA", nil, api.ErrName},
		{"abcdefghi", nil, api.ErrName},
		{"a\x00", nil, api.ErrName},
		{"1", []api.Addr{a, a, a, a, a}, api.ErrName},
		{"1", []api.Addr{0}, api.ErrName},
		{"a", []api.Addr{a, a, a, a, a}, api.ErrArity},
		{"a", []api.Addr{0, a, a, a, a}, api.ErrArity},
		{"X", []api.Addr{a}, api.ErrArity},
		{"X", []api.Addr{0}, api.ErrArity},
		{"a", []api.Addr{0}, api.ErrRange},
		{"a", []api.Addr{a, a, a, 65536}, api.ErrRange},
		{"a", []api.Addr{1 << 48}, api.ErrRange},
		{"a", []api.Addr{math.MaxUint64}, api.ErrRange},
	} {
		for _, n := range []*nodes.Nodes{p.n, free} {
			if b, found, e := n.Find(c.name, c.kids); b != 0 || found || e != c.want {
				t.Errorf("Find(%q, %x) = %d, %v, %v, want %v", c.name, c.kids, b, found, e, c.want)
			}
			if b, added, e := n.Add(c.name, c.kids); b != 0 || added || e != c.want {
				t.Errorf("Add(%q, %x) = %d, %v, %v, want %v", c.name, c.kids, b, added, e, c.want)
			}
		}
	}
	p.hold(t)
	want(t, p.s.Commit(), api.OK)
	if len(p.d.Log()) != writes {
		t.Error("something was written")
	}
	for _, c := range []content{{"a0", []api.Addr{1, 65535, 1<<48 - 1, a}}, {"abcdefgh", nil}, {"X", nil}, {"Z9999999", []api.Addr{}}} {
		p.add(t, c)
		p.hold(t)
	}
}

// TestOneContent: names that begin one another, the number of kids, their order and their addresses tell contents apart.
func TestOneContent(t *testing.T) {
	p := begin(t, 200, 3)
	a := p.add(t, content{"a", nil})
	b := p.add(t, content{"b", nil})
	contents := []content{
		{"s", nil}, {"s", []api.Addr{a}}, {"s", []api.Addr{b}}, {"s", []api.Addr{a + 1}}, {"s", []api.Addr{a, a}}, {"s", []api.Addr{a, b}}, {"s", []api.Addr{b, a}},
		{"s", []api.Addr{a, b, a}}, {"s", []api.Addr{a, b, a, b}}, {"s", []api.Addr{a, b, b, a}}, {"s0", []api.Addr{a}}, {"s00", []api.Addr{a}}, {"S", nil}, {"S0", nil}, {"t", []api.Addr{a}},
	}
	there := map[api.Addr]bool{a: true, b: true}
	for range 2 {
		for i, c := range contents {
			at := p.add(t, c)
			p.hold(t)
			there[at] = true
			for j, other := range contents {
				p.ask(t, other, at)
				if found, _ := p.m.find(other); (found == at) != (i == j) {
					t.Errorf("%v and %v have one address", c, other)
				}
			}
		}
	}
	if len(there) != len(contents)+2 {
		t.Errorf("%d nodes of %d contents", len(there), len(contents)+2)
	}
}

// TestSet: ErrNone ahead of ErrRange; of a right one just Count, Queued and Next are taken, others' nodes stay.
func TestSet(t *testing.T) {
	p := begin(t, 64, 2)
	a := p.add(t, content{"a", nil})
	b := p.add(t, content{"s", []api.Addr{a}})
	want(t, p.s.Commit(), api.OK)
	most := 1<<32 - 1
	for _, c := range []struct {
		x    api.Node
		want api.Errno
	}{
		{api.Node{At: 0, Name: "a"}, api.ErrNone},
		{api.Node{At: a + 1, Name: "a"}, api.ErrNone},
		{api.Node{At: a + 1<<48, Name: "a"}, api.ErrNone},
		{api.Node{At: a - 1, Name: "a"}, api.ErrNone},
		{api.Node{At: a, Name: "b"}, api.ErrNone},
		{api.Node{At: a}, api.ErrNone},
		{api.Node{At: a, Name: "a", Kids: []api.Addr{a}}, api.ErrNone},
		{api.Node{At: b, Name: "s"}, api.ErrNone},
		{api.Node{At: b, Name: "s", Kids: []api.Addr{b}}, api.ErrNone},
		{api.Node{At: b, Name: "s", Kids: []api.Addr{a, a}}, api.ErrNone},
		{api.Node{At: b, Name: "a"}, api.ErrNone},
		{api.Node{At: b, Name: "s", Count: -1}, api.ErrNone},
		{api.Node{At: a, Name: "b", Next: 65536}, api.ErrNone},
		{api.Node{At: a + 1, Name: "a", Count: most + 1, Next: 65536}, api.ErrNone},
		{api.Node{At: a, Name: "a", Count: -1}, api.ErrRange},
		{api.Node{At: a, Name: "a", Count: math.MinInt}, api.ErrRange},
		{api.Node{At: a, Name: "a", Count: most + 1}, api.ErrRange},
		{api.Node{At: a, Name: "a", Count: math.MaxInt}, api.ErrRange},
		{api.Node{At: a, Name: "a", Next: 65536}, api.ErrRange},
		{api.Node{At: a, Name: "a", Next: 1 << 48}, api.ErrRange},
		{api.Node{At: a, Name: "a", Next: 1<<48 + 1, Queued: true, Count: 3}, api.ErrRange},
		{api.Node{At: b, Name: "s", Kids: []api.Addr{a}, Count: -1}, api.ErrRange},
		{api.Node{At: a, Name: "a", Count: most, Queued: true, Next: 1<<48 - 1}, api.OK},
		{api.Node{At: a, Name: "a", Kids: []api.Addr{}, Count: 1, Next: 1}, api.OK},
		{api.Node{At: b, Name: "s", Kids: []api.Addr{a}, Queued: true, Next: b}, api.OK},
		{api.Node{At: b, Name: "s", Kids: []api.Addr{a}, Count: 7, Next: a}, api.OK},
		{api.Node{At: a, Name: "a"}, api.OK},
	} {
		writes := len(p.d.Log())
		if e := p.set(t, c.x); e != c.want {
			t.Errorf("Set(%v) = %v, want %v", c.x, e, c.want)
		}
		p.hold(t)
		want(t, p.s.Commit(), api.OK)
		if c.want != api.OK && len(p.d.Log()) != writes {
			t.Errorf("Set(%v): something was written", c.x)
		}
	}
}

// TestSpaceErrors: an error of the space is answered as it is met, and nothing beside it (R2).
func TestSpaceErrors(t *testing.T) {
	_, s := opened(t, 64, 2)
	for dir, errno := range map[int]api.Errno{-1: api.ErrRange, 0: api.ErrRange, 34: api.ErrRange, 64: api.ErrRange, math.MaxInt: api.ErrRange, 35: api.ErrNone, 63: api.ErrNone} {
		failing(t, nodes.At(s, dir), content{"a", nil}, 65537, errno)
	}
}

// TestOtherPages: of a page that is no directory's nothing is promised but what costs nothing: that the calls end, and don't panic.
func TestOtherPages(t *testing.T) {
	for _, front := range []string{"", "\x03", "\x04\x06", "\x04\xff", "\x04", "\x04\x00\x00\x24", "\x04\x00\xff\xff", "\x04\x01\x00\x23\x00\x00", "\x04\x05"} {
		_, s := opened(t, 64, 2)
		at, e := s.Alloc()
		want(t, e, api.OK)
		want(t, s.Put(at, front+strings.Repeat("\x00", 256-len(front))), api.OK)
		n := nodes.At(s, at)
		if !strings.HasPrefix(front, "\x04") || len(front) > 1 && front[1] > 5 {
			failing(t, n, content{"a", nil}, 65537, api.ErrForm)
			continue
		}
		n.Find("a", nil)
		n.Get(65537)
		n.Add("a", nil)
		n.Set(api.Node{At: 65537})
		n.Remove(65537)
		n.List()
		n.Depth()
		n.Pages()
	}
}

// TestSixPages: where all nodes of a full bucket are on one side, it is cut again and again, and linked at last; an Add takes six pages then.
func TestSixPages(t *testing.T) {
	for i := range 32 {
		bits := fmt.Sprintf("%05b", i)
		p := begin(t, 64, 3)
		l := narrow(bits, 11)
		for _, c := range l[:5] {
			p.add(t, c)
		}
		free := p.s.Free()
		p.add(t, l[5])
		if taken := free - p.s.Free(); taken != 6 || p.m.depth() != 5 {
			t.Errorf("below %s: %d pages for a depth of %d", bits, taken, p.m.depth())
		}
		for _, c := range l {
			p.add(t, c)
			p.hold(t)
		}
		if free-p.s.Free() != 7 {
			t.Errorf("below %s: %d pages for 11 nodes", bits, free-p.s.Free())
		}
	}
}

// TestEachCut: a bucket that is cut stands at more than one place, or at one alone, and its nodes go to both sides.
func TestEachCut(t *testing.T) {
	t.Parallel()
	for i := range 32 {
		bits := fmt.Sprintf("%05b", i)
		for deep := range 6 {
			p := begin(t, 200, 3)
			// The directory is made deep first, or last, by another bucket.
			other := narrow(fmt.Sprintf("%05b", 31-i), 6)
			for _, c := range other[:deep] {
				p.add(t, c)
			}
			for n := range 6 {
				for _, c := range narrow(bits[:5-n], 6) {
					p.add(t, c)
					p.hold(t)
				}
			}
			for _, c := range other {
				p.add(t, c)
				p.hold(t)
			}
		}
	}
}

// chain is a file with a bucket of three full pages at the greatest Depth.
func chain(t *testing.T) (*pair, []content) {
	t.Helper()
	p := begin(t, 64, 3)
	l := narrow("11010", 17)
	for _, c := range l[:15] {
		p.add(t, c)
	}
	p.hold(t)
	return p, l
}

func (p *pair) drop(t *testing.T, l ...content) {
	t.Helper()
	for _, c := range l {
		a, is := p.m.find(c)
		if !is {
			t.Fatal("nothing to remove")
		}
		p.remove(t, a)
		p.hold(t)
	}
}

// holdChain: so many nodes lie in each page of the longest bucket, in order.
func (p *pair) holdChain(t *testing.T, counts ...int) {
	t.Helper()
	at := 0
	for _, l := range p.m.buckets {
		if len(l) > 1 || len(l[0].nodes) > 0 {
			at = l[0].number
		}
	}
	var got []int
	for at != 0 {
		data, e := p.s.Get(at)
		want(t, e, api.OK)
		b, e := slot.Unpack(data)
		want(t, e, api.OK)
		got = append(got, len(b.Nodes))
		at = b.Next
	}
	if !slices.Equal(got, counts) {
		t.Errorf("the pages have %v nodes, want %v", got, counts)
	}
}

// TestEmptyPages: a page that is left empty is given back, if a Next tells it, wherever it lies; the first one stays.
func TestEmptyPages(t *testing.T) {
	p, l := chain(t)
	free := p.s.Free()
	p.drop(t, l[5:10]...)
	p.holdChain(t, 5, 5)
	p.drop(t, l[:5]...)
	p.holdChain(t, 0, 5)
	if p.s.Free() != free+1 {
		t.Errorf("%d pages are given back", p.s.Free()-free)
	}
	p.add(t, l[15])
	p.hold(t)
	p.holdChain(t, 1, 5)
	p.drop(t, l[10:15]...)
	p.holdChain(t, 1)
	p.drop(t, l[15])
	if p.s.Free() != free+2 || p.m.depth() != 5 {
		t.Errorf("%d pages are given back", p.s.Free()-free)
	}

	p, l = chain(t)
	p.drop(t, l[10:15]...)
	p.holdChain(t, 5, 5)
	p.drop(t, l[9], l[5], l[7], l[6], l[8])
	p.holdChain(t, 5)
}

// TestFirstFreeSlot: a node is laid into the first page with a free slot, behind those that lie there; those behind one that goes move up.
func TestFirstFreeSlot(t *testing.T) {
	p, l := chain(t)
	p.drop(t, l[12], l[6], l[8])
	p.holdChain(t, 5, 3, 4)
	p.add(t, l[15])
	p.hold(t)
	p.holdChain(t, 5, 4, 4)
	p.drop(t, l[0])
	p.add(t, l[16])
	p.hold(t)
	p.holdChain(t, 5, 4, 4)
	p.add(t, l[0])
	p.holdChain(t, 5, 5, 4)
	p.add(t, l[6])
	p.hold(t)
	p.holdChain(t, 5, 5, 5)
	p.add(t, l[8])
	p.hold(t)
	p.holdChain(t, 5, 5, 5, 1)
}

// TestSecondNumbers: of nodes with one hash each has the least second number that is free, whatever page it lies in, and keeps it (P16.3, P16.6).
func TestSecondNumbers(t *testing.T) {
	p := begin(t, 64, 3)
	l := twins()[:24]
	second := func(c content) int {
		a, is := p.m.find(c)
		if !is {
			return 0
		}
		b, found, e := p.n.Find(c.name, c.kids)
		if b != a || !found || e != api.OK {
			t.Errorf("Find(%v) = %d, %v, %v, want %d", c, b, found, e, a)
		}
		return int(b % 65536)
	}
	for i, c := range l {
		p.add(t, c)
		if second(c) != i+1 {
			t.Errorf("the second number is %d, want %d", second(c), i+1)
		}
	}
	p.hold(t)
	p.drop(t, l[6], l[20], l[0], l[23])
	for i, c := range []content{l[23], l[6], l[20], l[0]} {
		p.add(t, c)
		if w := []int{1, 7, 21, 24}[i]; second(c) != w {
			t.Errorf("the second number is %d, want %d", second(c), w)
		}
		p.hold(t)
	}
	for i, c := range l[1:6] {
		if second(c) != i+2 {
			t.Errorf("the second number has become %d", second(c))
		}
	}
	// Another hash has numbers of its own.
	other := p.add(t, narrow(bitsOf(l[0].hash())[:5], 1)[0])
	if other%65536 != 1 {
		t.Errorf("the second number is %d, want 1", other%65536)
	}
}

// TestLooks: calls that only look, and changes to what is there already, write nothing.
func TestLooks(t *testing.T) {
	p := begin(t, 200, 3)
	contents := slices.Concat(narrow("", 60), twins()[:7])
	for _, c := range contents {
		p.add(t, c)
	}
	want(t, p.s.Commit(), api.OK)
	writes := len(p.d.Log())
	for _, c := range contents {
		a := p.add(t, c)
		p.ask(t, c, a)
		p.ask(t, content{c.name + "x", c.kids}, a+7)
		p.remove(t, a+7)
		p.remove(t, a+1<<48)
		p.remove(t, a&^65535)
		want(t, p.set(t, api.Node{At: a + 7, Name: c.name, Kids: c.kids}), api.ErrNone)
		want(t, p.set(t, api.Node{At: a, Name: c.name, Kids: c.kids, Count: -1}), api.ErrRange)
	}
	p.hold(t)
	want(t, p.s.Commit(), api.OK)
	if len(p.d.Log()) != writes {
		t.Error("something was written")
	}
}

// TestFull: a disk without a free page refuses what takes one, and behind Undo all is as it was; what takes none goes on.
func TestFull(t *testing.T) {
	t.Parallel()
	draws := [][]content{narrow("", 400), narrow("00111", 200), slices.Concat(twins()[:20], narrow("", 300))}
	for i := range 40 {
		contents := draws[i%len(draws)]
		p := begin(t, 64, 3)
		for range 26 - 2*(i%13) {
			at, e := p.s.Alloc()
			if at != p.m.room.take() || e != api.OK {
				t.Fatal(at, e)
			}
		}
		full := 0
		for _, c := range contents {
			want(t, p.s.Commit(), api.OK)
			kept := p.m.clone()
			_, is := p.m.find(c)
			a, added, e := p.n.Add(c.name, c.kids)
			if e == api.OK {
				p.m.add(c)
				continue
			}
			if a != 0 || added || e != api.ErrFull || is || p.m.room.free() >= 6 {
				t.Fatalf("Add: %d, %v, %v with %d pages free", a, added, e, p.m.room.free())
			}
			full++
			p.s.Undo()
			p.m = kept
			p.hold(t)
		}
		if full == 0 {
			t.Error("the disk wasn't full")
		}
		for _, c := range contents {
			if a, is := p.m.find(c); is {
				p.add(t, c)
				want(t, p.set(t, api.Node{At: a, Name: c.name, Kids: c.kids, Count: 9}), api.OK)
				p.remove(t, a)
				p.add(t, c)
			}
		}
		p.hold(t)
	}
}
