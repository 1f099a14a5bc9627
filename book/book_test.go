package book_test

import (
	"fmt"
	"math"
	"math/rand"
	"slices"
	"strings"
	"testing"

	"aumbry/api"
	"aumbry/book"
	"aumbry/leaf"
	"aumbry/refs"
	"aumbry/space"
	"aumbry/tree"
)

// TestExamples: those of the chapter.
func TestExamples(t *testing.T) {
	p := begin(t, 64, 2)
	p.add(t, "g(B,A) -> A", 1)
	wantRules(t, p.b, "1: g(X0,X1) -> X1")
	wantVersion(t, p.b, 1)
	x, found, e := p.b.Remove(1)
	if told(x) != "1: g(X0,X1) -> X1" || !found || e != api.OK {
		t.Errorf("Remove: %s, %v, %v", told(x), found, e)
	}
	p.m.remove(t, 1)
	if p.remove(t, 1) {
		t.Error("removed twice")
	}
	wantVersion(t, p.b, 2)
	p.add(t, "a -> b", 2)
	p.holdAll(t)
}

func wantRules(t *testing.T, b *book.Book, want ...string) {
	t.Helper()
	l, e := b.List()
	var all []string
	for _, x := range l {
		all = append(all, told(x))
	}
	if !slices.Equal(all, want) || e != api.OK {
		t.Errorf("List: %v, %v, want %v", all, e, want)
	}
}

func wantVersion(t *testing.T, b *book.Book, want int) {
	t.Helper()
	if n, e := b.Version(); n != want || e != api.OK {
		t.Errorf("Version: %d, %v, want %d", n, e, want)
	}
}

// TestNew: a tree whose only entry tells no changes, and 1 as the next number; its root is the free page with the least number (P19.1).
func TestNew(t *testing.T) {
	_, s := opened(t, 64, 2)
	dir, list, e := refs.New(s)
	want(t, e, api.OK)
	first, e := leaf.Pack(leaf.Leaf, []api.Entry{{Key: "v", Value: strings.Repeat("\x00", 11) + "\x01"}})
	want(t, e, api.OK)
	for at := 38; at < 64; at++ {
		root, e := book.New(s)
		if root != at || e != api.OK {
			t.Fatalf("New: %d, %v, want %d", root, e, at)
		}
		if data, e := s.Get(root); data != first || e != api.OK {
			t.Errorf("page %d is %q, %v", root, data, e)
		}
		b := book.At(s, refs.At(s, dir, list), root)
		wantRules(t, b)
		wantVersion(t, b, 0)
	}
	want(t, s.Commit(), api.OK)
	taken := s.Taken()
	if root, e := book.New(s); root != 0 || e != api.ErrFull {
		t.Errorf("New on a full disk: %d, %v", root, e)
	}
	s.Undo()
	if !slices.Equal(s.Taken(), taken) {
		t.Errorf("taken are %v, want %v", s.Taken(), taken)
	}
}

// failing: all calls answer this error, and nothing beside it.
func failing(t *testing.T, b *book.Book, x api.Rule, id int, errno api.Errno) {
	t.Helper()
	if n, e := b.Add(x); n != 0 || e != errno {
		t.Errorf("Add(%s): %d, %v, want %v", told(x), n, e, errno)
	}
	failingRemove(t, b, id, errno)
	failingList(t, b, errno)
	if n, e := b.Version(); n != 0 || e != errno {
		t.Errorf("Version: %d, %v, want %v", n, e, errno)
	}
}

func failingRemove(t *testing.T, b *book.Book, id int, errno api.Errno) {
	t.Helper()
	if x, found, e := b.Remove(id); !alike(x, api.Rule{}) || found || e != errno {
		t.Errorf("Remove(%d): %s, %v, %v, want %v", id, told(x), found, e, errno)
	}
}

func failingList(t *testing.T, b *book.Book, errno api.Errno) {
	t.Helper()
	if l, e := b.List(); len(l) != 0 || e != errno {
		t.Errorf("List: %v, %v, want %v", l, e, errno)
	}
}

// TestNil: of a nil space or of nil terms there is nothing, and that answers ErrNil, whatever else is wrong, and nothing beside it (P19.1, R2).
func TestNil(t *testing.T) {
	if root, e := book.New(nil); root != 0 || e != api.ErrNil {
		t.Errorf("New: %d, %v", root, e)
	}
	none, e := space.Open(nil, 1)
	want(t, e, api.ErrNil)
	if root, e := book.New(none); root != 0 || e != api.ErrNil {
		t.Errorf("New: %d, %v", root, e)
	}
	p := begin(t, 64, 2)
	p.add(t, "a -> b", 1)
	all := []*book.Book{nil}
	for _, at := range []int{0, 35, 38, -1, math.MaxInt} {
		all = append(all, book.At(nil, p.r, at), book.At(p.s, nil, at), book.At(none, p.r, at), book.At(p.s, refs.At(none, 35, 37), at), book.At(nil, nil, at))
	}
	for _, b := range all {
		if b != nil {
			t.Fatal("something of nothing")
		}
		failing(t, b, sides(t, "a -> b"), 1, api.ErrNil)
		failing(t, b, api.Rule{ID: -1}, -1, api.ErrNil)
		failing(t, b, sides(t, "X -> Y"), 0, api.ErrNil)
		failing(t, b, api.Rule{ID: 70000, Left: make(api.Term, 65)}, math.MaxInt, api.ErrNil)
	}
	p.holdAll(t)
}

// TestNothing: nil and empty terms are one, and no terms (R3); what holds no rules lists none.
func TestNothing(t *testing.T) {
	p := begin(t, 64, 2)
	for _, x := range []api.Term{nil, {}, make(api.Term, 0, 9)} {
		p.refused(t, api.Rule{Left: x, Right: read(t, "a")}, api.ErrForm)
		p.refused(t, api.Rule{Left: read(t, "a"), Right: x}, api.ErrForm)
		p.refused(t, api.Rule{Left: x, Right: x}, api.ErrForm)
	}
	p.holdAll(t)
}

type refusal struct {
	x    api.Rule
	want api.Errno
}

// refusals are rules that aren't right, some of them in several ways: what Check names first is their error.
func refusals(t *testing.T) []refusal {
	t.Helper()
	var l []refusal
	for s, e := range map[string]api.Errno{
		tower(9, "s", "a") + " -> a":                       api.ErrBig,
		"a -> " + tower(9, "s", "a"):                       api.ErrBig,
		tower(64, "s", "X") + " -> " + tower(64, "s", "Y"): api.ErrBig,
		"X -> " + tower(9, "s", "a"):                       api.ErrBig,
		"X -> a":                                           api.ErrRule,
		"X -> X":                                           api.ErrRule,
		"X -> Y":                                           api.ErrRule,
		"ABC12345 -> s(Y)":                                 api.ErrRule,
		"a -> X":                                           api.ErrVar,
		"s(X) -> Y":                                        api.ErrVar,
		"s(X) -> g(X,Y)":                                   api.ErrVar,
		"s(X) -> s(X0)":                                    api.ErrVar,
		"a -> " + tower(8, "s", "Z"):                       api.ErrVar,
	} {
		l = append(l, refusal{sides(t, s), e})
	}
	a := read(t, "a")
	for _, bad := range []refusal{
		{api.Rule{Left: make(api.Term, 65)}, api.ErrBig},
		{api.Rule{Left: api.Term{{Name: "Aa"}}}, api.ErrName},
		{api.Rule{Left: api.Term{{Name: "a"}, {Name: ""}}}, api.ErrName},
		{api.Rule{Left: api.Term{{Name: "a", Arity: 5}}}, api.ErrArity},
		{api.Rule{Left: api.Term{{Name: "X", Arity: 1}, {Name: "a"}}}, api.ErrArity},
		{api.Rule{Left: api.Term{{Name: "a"}, {Name: "a"}}}, api.ErrForm},
		{api.Rule{Left: api.Term{{Name: "g", Arity: 2}, {Name: "a"}}}, api.ErrForm},
	} {
		wrong := bad.x.Left
		l = append(l,
			refusal{api.Rule{Left: wrong, Right: a}, bad.want},
			refusal{api.Rule{Left: a, Right: wrong}, bad.want},
			refusal{api.Rule{Left: wrong, Right: api.Term{{Name: "1"}, {Name: "b", Arity: -1}}}, bad.want},
			refusal{api.Rule{Left: api.Term{{Name: "X"}}, Right: wrong}, bad.want},
			refusal{api.Rule{Left: read(t, tower(9, "s", "a")), Right: wrong}, bad.want})
	}
	for _, id := range []int{-1, 65536, 1 << 16, 1 << 40, math.MaxInt, math.MinInt} {
		for _, s := range []string{"a -> b", "X -> Y", "a -> X", "a -> " + tower(9, "s", "a")} {
			x := sides(t, s)
			x.ID = id
			l = append(l, refusal{x, api.ErrRange})
		}
		l = append(l, refusal{api.Rule{ID: id}, api.ErrRange})
	}
	return l
}

// TestRefused: Check's errors, and nothing has changed (P19.2, R2).
func TestRefused(t *testing.T) {
	p := begin(t, 64, 2)
	p.add(t, "s(Y) -> Y", 1)
	p.commit(t)
	writes := len(p.d.Log())
	for _, x := range refusals(t) {
		p.refused(t, x.x, x.want)
	}
	p.holdAll(t)
	want(t, p.s.Commit(), api.OK)
	if len(p.d.Log()) != writes {
		t.Error("something was written")
	}
	p.add(t, "s(Y) -> Y", 2)
	p.holdAll(t)
}

// TestPlain: each rule is there in its plain form, with its own number, whatever ID was handed in (P19.2, P19.3).
func TestPlain(t *testing.T) {
	p := begin(t, 64, 2)
	var all []string
	for i, c := range []struct {
		s    string
		id   int
		want string
	}{
		{"a -> b", 0, "1: a -> b"},
		{"a -> b", 1, "2: a -> b"},
		{"g(B,A) -> A", 65535, "3: g(X0,X1) -> X1"},
		{"g(A,A) -> A", 900, "4: g(X0,X0) -> X0"},
		{"g(X1,X0) -> g(X0,X1)", 2, "5: g(X0,X1) -> g(X1,X0)"},
		{"g(X0,X1) -> g(X0,X1)", 7, "6: g(X0,X1) -> g(X0,X1)"},
		{"k(D,C,g(D,B),A) -> k(A,B,C,D)", 6, "7: k(X0,X1,g(X0,X2),X3) -> k(X3,X2,X1,X0)"},
		{"s(LONGNAME) -> a", 6, "8: s(X0) -> a"},
		{tower(8, "s", "Z") + " -> " + tower(8, "t", "Z"), 6, "9: " + tower(8, "s", "X0") + " -> " + tower(8, "t", "X0")},
		{"a -> a", 6, "10: a -> a"},
	} {
		x := sides(t, c.s)
		x.ID = c.id
		id, e := p.addRule(t, x)
		if id != i+1 || e != api.OK {
			t.Errorf("Add(%s): %d, %v", c.s, id, e)
		}
		all = append(all, c.want)
		wantRules(t, p.b, all...)
		wantVersion(t, p.b, i+1)
		p.holdAll(t)
	}
}

// count is how often a term's node is counted.
func (p *pair) count(t testing.TB, s string) int {
	t.Helper()
	a, there, e := p.r.Has(read(t, s))
	if !there || e != api.OK {
		t.Fatalf("%s: %v, %v", s, there, e)
	}
	x, _, e := p.r.Nodes().Get(a)
	want(t, e, api.OK)
	return x.Count
}

// TestEntries: the tree has the counts below v, and below r and each rule's number the addresses of its sides.
func TestEntries(t *testing.T) {
	p := begin(t, 64, 2)
	p.add(t, "s(Z) -> Z", 1)
	p.add(t, "a -> a", 2)
	p.add(t, "s(Y) -> a", 3)
	if !p.remove(t, 1) {
		t.Error("nothing to remove")
	}
	address := func(s string) string { return bytesOf(uint64(p.m.address(t, s)), 6) }
	l, e := tree.At(p.s, p.m.at.root).List("", 99)
	if !slices.Equal(l, []api.Entry{
		{Key: "r\x00\x02", Value: address("a") + address("a")},
		{Key: "r\x00\x03", Value: address("s(X0)") + address("a")},
		{Key: "v", Value: "\x00\x00\x00\x00\x00\x00\x00\x04\x00\x00\x00\x04"},
	}) || e != api.OK {
		t.Errorf("the entries are %q, %v", l, e)
	}
	// Both sides of the second rule, and one of the third one.
	for s, n := range map[string]int{"a": 3, "s(X0)": 1, "X0": 1} {
		if got := p.count(t, s); got != n {
			t.Errorf("%s has the count %d, want %d", s, got, n)
		}
	}
	p.holdAll(t)
}

// TestLetGo: what a rule held is let go once for each side, nobody else's is; and it comes to wait (P19.2).
func TestLetGo(t *testing.T) {
	p := begin(t, 64, 2)
	waits := func(l ...string) {
		t.Helper()
		p.holdAll(t)
		var addrs []api.Addr
		for _, s := range l {
			addrs = append(addrs, p.m.address(t, s))
		}
		slices.Sort(addrs)
		w, e := p.r.Waiting()
		if slices.Sort(w); !slices.Equal(w, addrs) || e != api.OK {
			t.Errorf("Waiting: %x, %v, want %v", w, e, l)
		}
	}
	p.add(t, "s(X) -> X", 1)
	p.add(t, "s(X) -> a", 2)
	p.add(t, "b -> b", 3)
	p.keep(t, read(t, "a"))
	waits()
	p.remove(t, 1)
	waits()
	p.remove(t, 3)
	waits("b")
	p.remove(t, 2)
	waits("b", "s(X0)")
	p.add(t, "b -> s(a)", 4)
	waits("b", "s(X0)")
	for !p.reclaim(t, 1) {
		p.holdAll(t)
	}
	waits()
	p.remove(t, 4)
	waits("b", "s(a)")
	p.reclaim(t, 9)
	waits()
	if l, e := p.r.Nodes().List(); len(l) != 1 || l[0].Name != "a" || l[0].Count != 1 || e != api.OK {
		t.Errorf("left are %v, %v", l, e)
	}
}

// TestRemove: numbers that no rule has, or no rule any more, are no error, and change nothing; those that go on are their rules' (P19.2, P19.3).
func TestRemove(t *testing.T) {
	p := begin(t, 64, 2)
	odd := []int{-1, 0, 65535, 65536, 65537, 65538, 1 << 32, 1<<32 + 1, 1 << 40, math.MaxInt, math.MinInt, -65535}
	for range 2 {
		for _, id := range odd {
			if p.remove(t, id) {
				t.Errorf("%d is removed", id)
			}
		}
		p.holdAll(t)
		if len(p.m.rules) == 0 {
			for i := range 5 {
				p.add(t, fmt.Sprintf("s(X) -> a%d", i), i+1)
			}
		}
	}
	for _, id := range []int{3, 1, 5} {
		if !p.remove(t, id) || p.remove(t, id) {
			t.Errorf("Remove(%d)", id)
		}
		p.holdAll(t)
	}
	wantRules(t, p.b, "2: s(X0) -> a1", "4: s(X0) -> a3")
	wantVersion(t, p.b, 8)
	p.add(t, "a -> b", 6)
	p.remove(t, 6)
	p.add(t, "a -> c", 7)
	wantRules(t, p.b, "2: s(X0) -> a1", "4: s(X0) -> a3", "7: a -> c")
	p.holdAll(t)
}

// TestMostRules: 64 rules; one more is one too many, but what is wrong with it otherwise is told ahead, and nothing changes (P19.2).
func TestMostRules(t *testing.T) {
	p := begin(t, 200, 5)
	for i := range 64 {
		p.add(t, fmt.Sprintf("g(%s,Y) -> g(Y,b%d)", tower(1+i%5, "s", "X"), i%7), i+1)
		if i%20 == 0 {
			p.holdAll(t)
		}
	}
	p.commit(t)
	writes := len(p.d.Log())
	p.refused(t, sides(t, "a -> b"), api.ErrMany)
	p.refused(t, sides(t, "new(X) -> newer"), api.ErrMany)
	for _, x := range refusals(t) {
		p.refused(t, x.x, x.want)
	}
	want(t, p.s.Commit(), api.OK)
	if len(p.d.Log()) != writes {
		t.Error("something was written")
	}
	p.holdAll(t)
	for i, id := range []int{64, 1, 30} {
		p.remove(t, id)
		p.add(t, "new(X) -> newer", 65+i)
		p.refused(t, sides(t, "a -> b"), api.ErrMany)
		p.holdAll(t)
	}
	for i := range 67 {
		p.remove(t, i+1)
	}
	wantRules(t, p.b)
	wantVersion(t, p.b, 67+67)
	p.holdAll(t)
	p.add(t, "a -> b", 68)
}

// next writes down that this is the next number, in both spaces.
func (p *pair) next(t *testing.T, n int) {
	t.Helper()
	p.m.next = n
	p.m.count(t)
	value := bytesOf(uint64(p.m.changes), 8) + bytesOf(uint64(n), 4)
	want(t, tree.At(p.s, p.m.at.root).Put("v", value), api.OK)
}

// TestGreatestNumber: 65535 is a number, and the last one; Remove goes on (P19.2).
func TestGreatestNumber(t *testing.T) {
	p := begin(t, 64, 2)
	p.add(t, "a -> b", 1)
	p.next(t, 255)
	p.add(t, "s(X) -> X", 255)
	p.add(t, "s(X) -> b", 256)
	p.next(t, 65534)
	p.add(t, "b -> c", 65534)
	p.add(t, "c -> d", 65535)
	p.commit(t)
	writes := len(p.d.Log())
	p.refused(t, sides(t, "a -> e"), api.ErrMany)
	p.refused(t, sides(t, "X -> Y"), api.ErrRule)
	want(t, p.s.Commit(), api.OK)
	if len(p.d.Log()) != writes {
		t.Error("something was written")
	}
	wantRules(t, p.b, "1: a -> b", "255: s(X0) -> X0", "256: s(X0) -> b", "65534: b -> c", "65535: c -> d")
	p.holdAll(t)
	for _, id := range []int{65535, 1, 256} {
		if !p.remove(t, id) || p.remove(t, id) {
			t.Errorf("Remove(%d)", id)
		}
		p.refused(t, sides(t, "a -> b"), api.ErrMany)
		p.holdAll(t)
	}
	wantVersion(t, p.b, 8)
	p.next(t, math.MaxUint32)
	p.refused(t, sides(t, "a -> b"), api.ErrMany)
	p.remove(t, 65534)
	p.holdAll(t)
}

// TestManyChanges: all eight bytes tell how often the rules were changed.
func TestManyChanges(t *testing.T) {
	p := begin(t, 64, 2)
	p.add(t, "a -> b", 1)
	for i, changes := range []int{255, 65535, math.MaxUint32, 1<<48 - 1, math.MaxInt - 3} {
		p.m.changes = changes
		p.next(t, 2+i)
		wantVersion(t, p.b, changes)
		p.add(t, "s(X) -> X", 2+i)
		wantVersion(t, p.b, changes+1)
		p.remove(t, 2+i)
		wantVersion(t, p.b, changes+2)
		p.holdAll(t)
	}
}

// TestLooks: calls that only look, those that are refused, and a Remove of nothing write nothing.
func TestLooks(t *testing.T) {
	p := begin(t, 64, 1)
	p.add(t, "s(X) -> X", 1)
	p.commit(t)
	writes := len(p.d.Log())
	p.holdAll(t)
	p.remove(t, 2)
	p.refused(t, sides(t, "X -> X"), api.ErrRule)
	p.refused(t, api.Rule{ID: -1}, api.ErrRange)
	p.ask(t)
	want(t, p.s.Commit(), api.OK)
	if len(p.d.Log()) != writes {
		t.Error("something was written")
	}
}

// setCount sets a node's count, in both spaces.
func (p *pair) setCount(t *testing.T, s string, n int) {
	t.Helper()
	for _, r := range []*refs.Refs{p.r, p.m.r} {
		a, there, e := r.Has(read(t, s))
		if !there || e != api.OK {
			t.Fatalf("%s: %v, %v", s, there, e)
		}
		x, _, e := r.Nodes().Get(a)
		want(t, e, api.OK)
		x.Count = n
		want(t, r.Nodes().Set(x), api.OK)
	}
}

// TestGreatestCount: where a part has been held so often that once more is one too many, an Add of it is refused, on whichever side, and nothing has changed.
func TestGreatestCount(t *testing.T) {
	for _, room := range []int{0, 1, 2} {
		p := begin(t, 64, 2)
		p.add(t, "s(X) -> X", 1)
		p.add(t, "a -> s(a)", 2)
		p.setCount(t, "a", math.MaxUint32-room)
		for _, c := range []struct {
			s    string
			more int // of a
		}{
			{"a -> b", 1}, {"b -> a", 1}, {"a -> a", 2}, {"a -> t(a)", 2}, {"g(a,a) -> b", 2}, {"g(a,X) -> t(a)", 2}, {"t(a) -> t(a)", 1}, {"t(a) -> t(t(a))", 1}, {"g(a,a) -> a", 3}, {"new -> g(a,g(a,b))", 2},
		} {
			if c.more > room {
				if id, e := p.b.Add(sides(t, c.s)); id != 0 || e != api.ErrMany {
					t.Errorf("%s with room for %d: %d, %v", c.s, room, id, e)
				}
			} else {
				q := p.twin(t)
				q.add(t, c.s, 3)
				q.holdPages(t)
			}
			p.holdPages(t)
		}
		// What takes no more of it goes on.
		p.add(t, "s(a) -> b", 3)
		p.remove(t, 2)
		p.holdPages(t)
	}
}

// twin is the pair as it is now, on disks of its own.
func (p *pair) twin(t *testing.T) *pair {
	t.Helper()
	p.commit(t)
	return p.again(t, 5)
}

// TestLetGoByOthers: whoever lets go what only a rule holds has taken it away from that. Then the errors of the terms are answered, as they are met, and nothing has changed.
func TestLetGoByOthers(t *testing.T) {
	for _, side := range []string{"s(s(X0))", "t(X0)"} {
		for _, gone := range []api.Errno{api.ErrRange, api.ErrNone} {
			p := begin(t, 64, 2)
			p.add(t, "s(s(X)) -> t(X)", 1)
			p.add(t, "a -> b", 2)
			for _, r := range []*refs.Refs{p.r, p.m.r} {
				want(t, r.Drop(p.m.address(t, side)), api.OK)
			}
			if gone == api.ErrNone {
				p.reclaim(t, 9)
				failingList(t, p.b, gone)
			} else {
				wantRules(t, p.b, "1: s(s(X0)) -> t(X0)", "2: a -> b")
			}
			failingRemove(t, p.b, 1, gone)
			wantVersion(t, p.b, 2)
			p.holdPages(t)
			p.remove(t, 2)
			p.holdPages(t)
		}
	}
}

// TestLikeSidesLetGoByOthers: a rule whose sides are alike lets them go twice, or not at all.
func TestLikeSidesLetGoByOthers(t *testing.T) {
	p := begin(t, 64, 2)
	p.add(t, "a -> a", 1)
	for _, r := range []*refs.Refs{p.r, p.m.r} {
		want(t, r.Drop(p.m.address(t, "a")), api.OK)
	}
	p.commit(t)
	failingRemove(t, p.b, 1, api.ErrRange)
	p.holdPages(t)
	wantRules(t, p.b, "1: a -> a")
	wantVersion(t, p.b, 1)
}

// TestSpaceErrors: an error of the space is answered as it is met, and nothing beside it, but errors that are named ahead of it (P19.1, R2).
func TestSpaceErrors(t *testing.T) {
	p := begin(t, 64, 2)
	p.add(t, "a -> b", 1)
	for at, errno := range map[int]api.Errno{-1: api.ErrRange, 0: api.ErrRange, 34: api.ErrRange, 64: api.ErrRange, math.MaxInt: api.ErrRange, 50: api.ErrNone, 63: api.ErrNone} {
		b := book.At(p.s, p.r, at)
		failing(t, b, sides(t, "a -> b"), 1, errno)
		failing(t, b, sides(t, "s(X) -> X"), -1, errno)
		for _, x := range refusals(t) {
			if id, e := b.Add(x.x); id != 0 || e != x.want {
				t.Errorf("Add(%s): %d, %v, want %v", told(x.x), id, e, x.want)
			}
		}
		// The terms lie elsewhere.
		b = book.At(p.s, refs.At(p.s, at, at), p.m.at.root)
		if id, e := b.Add(sides(t, "a -> b")); id != 0 || e != errno {
			t.Errorf("Add: %d, %v, want %v", id, e, errno)
		}
		failingRemove(t, b, 1, errno)
		failingList(t, b, errno)
		wantVersion(t, b, 1)
		if x, found, e := b.Remove(2); !alike(x, api.Rule{}) || found || e != api.OK {
			t.Errorf("Remove(2): %s, %v, %v", told(x), found, e)
		}
	}
	p.holdAll(t)
}

// TestOtherPages: of pages that are none of these nothing is promised but what costs nothing: that the calls end, and don't panic.
func TestOtherPages(t *testing.T) {
	for _, front := range []string{"", "\x01", "\x01\x01\x01v\x00", "\x01\x01\x01r\x01\x05", "\x01\x01\x03r\x00\x01\x00", "\x01\x01\x03r\x00\x01\x0c\x00\x00\x00\x00\x00\x00", "\x01\x01\x01v\x0c\xff\xff\xff\xff\xff\xff\xff\xff\xff\xff\xff\xff", "\x02", "\x02\x01\x01a\x02\x00\x26", "\x02\x01\x00\x02\x00\x00", "\x03", "\x04", "\x05", "\xff\xff"} {
		p := begin(t, 64, 2)
		p.add(t, "a -> b", 1)
		at, e := p.s.Alloc()
		want(t, e, api.OK)
		want(t, p.s.Put(at, front+strings.Repeat("\x00", 256-len(front))), api.OK)
		for _, b := range []*book.Book{book.At(p.s, p.r, at), book.At(p.s, refs.At(p.s, at, at), p.m.at.root), book.At(p.s, p.r, p.m.at.dir)} {
			b.List()
			b.Version()
			b.Add(sides(t, "a -> b"))
			b.Remove(1)
			b.Remove(0)
			b.List()
		}
	}
}

// TestFull: a disk without a free page refuses what takes one, and behind Undo all is as it was; what takes none goes on.
func TestFull(t *testing.T) {
	t.Parallel()
	full := 0
	for i := range 24 {
		r := rand.New(rand.NewSource(int64(i)))
		p := begin(t, 64, 3)
		for range i {
			_, e := p.s.Alloc()
			want(t, e, api.OK)
			_, e = p.m.s.Alloc()
			want(t, e, api.OK)
		}
		p.commit(t)
		met := 0
		for range 80 {
			met += boolean(p.tryFull(t, pools()["many"].rule(r)) == api.ErrFull)
		}
		full += boolean(met > 0)
		for len(p.m.rules) > 0 {
			p.remove(t, p.m.rules[r.Intn(len(p.m.rules))].ID)
			p.holdAll(t)
		}
		for !p.reclaim(t, 50) {
			p.holdAll(t)
		}
		p.holdAll(t)
	}
	if full < 12 {
		t.Errorf("%d disks were full", full)
	}
}

// tryFull tries an Add, undoes it, and does it again with the model, if the disk had room.
func (p *pair) tryFull(t *testing.T, x api.Rule) api.Errno {
	t.Helper()
	id, e := p.b.Add(x)
	p.s.Undo()
	if e == api.ErrFull {
		if id != 0 {
			t.Errorf("%d beside an error", id)
		}
		p.holdAll(t)
		return e
	}
	p.holdPages(t)
	p.addRule(t, x)
	p.commit(t)
	return e
}
