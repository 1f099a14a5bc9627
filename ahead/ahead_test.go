package ahead_test

import (
	"fmt"
	"maps"
	"math"
	"math/rand"
	"slices"
	"strings"
	"sync"
	"testing"

	"aumbry/ahead"
	"aumbry/api"
	"aumbry/disk"
	"aumbry/refs"
	"aumbry/slot"
	"aumbry/space"
	"aumbry/term"
)

func want(t testing.TB, got, want api.Errno) {
	t.Helper()
	if got != want {
		t.Fatalf("%v, want %v", got, want)
	}
}

func read(t testing.TB, s string) api.Term {
	t.Helper()
	x, _, e := term.Parse(s)
	if e != api.OK {
		t.Fatalf("%s: %v", s, e)
	}
	return x
}

// off turns the power of a disk off, and changes nothing else of it.
func off(d *disk.Disk) {
	d.Cut(0)
	d.Write(0, strings.Repeat("\x00", 256))
}

// terms are those of a space, and where they are found again.
type terms struct {
	d         *disk.Disk
	s         *space.Space
	r         *refs.Refs
	dir, list int
}

func begin(t testing.TB, room int) *terms {
	t.Helper()
	d, e := disk.New(900)
	want(t, e, api.OK)
	x := &terms{d: d}
	x.s, e = space.Open(d, room)
	want(t, e, api.OK)
	x.dir, x.list, e = refs.New(x.s)
	want(t, e, api.OK)
	want(t, x.s.Commit(), api.OK)
	x.r = refs.At(x.s, x.dir, x.list)
	return x
}

// open opens the space anew: no page is held then.
func (x *terms) open(t testing.TB, room int) {
	t.Helper()
	var e api.Errno
	x.s, e = space.Open(x.d, room)
	want(t, e, api.OK)
	x.r = refs.At(x.s, x.dir, x.list)
}

func (x *terms) keep(t testing.TB, s string) api.Addr {
	t.Helper()
	a, e := x.r.Keep(read(t, s))
	want(t, e, api.OK)
	return a
}

// pages are all that the space has taken.
func (x *terms) pages(t testing.TB) map[int]string {
	t.Helper()
	l := map[int]string{}
	for _, at := range x.s.Taken() {
		data, e := x.s.Get(at)
		want(t, e, api.OK)
		l[at] = data
	}
	return l
}

// call is a Keep of a term, or a Drop of an address, if there is no term.
type call struct {
	term api.Term
	addr api.Addr
}

// wayTo does calls, by a look or by the terms themselves, one behind the other up to the first error, and answers how many went well, and that error.
func wayTo(calls []call, keep func(api.Term) api.Errno, drop func(api.Addr) api.Errno) (int, api.Errno) {
	for i, c := range calls {
		e := api.OK
		if c.term != nil {
			e = keep(c.term)
		} else {
			e = drop(c.addr)
		}
		if e != api.OK {
			return i, e
		}
	}
	return len(calls), api.OK
}

func (x *terms) look(calls []call) (int, api.Errno) {
	l := ahead.At(x.r)
	return wayTo(calls, l.Keep, l.Drop)
}

func (x *terms) do(calls []call) (int, api.Errno) {
	return wayTo(calls, func(t api.Term) api.Errno { _, e := x.r.Keep(t); return e }, x.r.Drop)
}

// both looks at calls, which changes nothing, and does them: both come to the same.
func (x *terms) both(t *testing.T, calls []call) api.Errno {
	t.Helper()
	was := x.pages(t)
	n, e := x.look(calls)
	if !maps.Equal(x.pages(t), was) {
		t.Fatalf("a look at %v has changed something", calls)
	}
	if m, f := x.do(calls); n != m || e != f {
		t.Fatalf("%v: %d went well, then %v; they looked as if %d would, then %v", calls, m, f, n, e)
	}
	return e
}

// twins are pairs of names of which those without arguments have one hash.
var twins = sync.OnceValue(func() []string {
	first := map[uint32]string{}
	var l []string
	for i := range 1 << 18 {
		name := fmt.Sprintf("t%x", i)
		h, _ := slot.Hash(name, nil)
		if other, is := first[h]; is {
			l = append(l, other, name)
		}
		first[h] = name
	}
	return l
})

// drawn is a term of at most so many cells, most of whose parts are met again; now and then it is none.
func drawn(r *rand.Rand, cells int) api.Term {
	leaves := append([]string{"a", "b", "X"}, twins()[:4]...)
	if cells < 2 || r.Intn(6) == 0 {
		return api.Term{{Name: leaves[r.Intn(len(leaves))]}}
	}
	n := 1 + r.Intn(min(3, cells-1))
	t := api.Term{{Name: []string{"s", "g", "h"}[n-1], Arity: n}}
	rest := cells - 1
	for i := range n {
		kid := drawn(r, rest/(n-i))
		t = append(t, kid...)
		rest -= len(kid)
	}
	if r.Intn(60) == 0 {
		t[r.Intn(len(t))].Name = "Aa"
	}
	return t
}

// someAddr is mostly that of a node that is there.
func (x *terms) someAddr(t testing.TB, r *rand.Rand) api.Addr {
	t.Helper()
	l, e := x.r.Nodes().List()
	want(t, e, api.OK)
	if len(l) == 0 || r.Intn(20) == 0 {
		return []api.Addr{0, 1, 1 << 47, math.MaxUint64}[r.Intn(4)]
	}
	return l[r.Intn(len(l))].At
}

func (x *terms) drawnCalls(t testing.TB, r *rand.Rand) []call {
	t.Helper()
	var l []call
	for range 1 + r.Intn(5) {
		if r.Intn(3) == 0 {
			l = append(l, call{addr: x.someAddr(t, r)})
		} else {
			l = append(l, call{term: drawn(r, 1+r.Intn(9))})
		}
	}
	// Often one of them is done more than once.
	for r.Intn(2) == 0 {
		l = append(l, l[r.Intn(len(l))])
	}
	return l
}

// crowd makes a node's count nearly the greatest one.
func (x *terms) crowd(t testing.TB, r *rand.Rand) {
	t.Helper()
	l, e := x.r.Nodes().List()
	want(t, e, api.OK)
	if len(l) > 0 {
		y := l[r.Intn(len(l))]
		y.Count = math.MaxUint32 - r.Intn(4)
		want(t, x.r.Nodes().Set(y), api.OK)
	}
}

// TestLook: what calls look as if they would meet they meet; and the look changes nothing.
func TestLook(t *testing.T) {
	t.Parallel()
	met := map[api.Errno]int{}
	for i := range 5 {
		r := rand.New(rand.NewSource(int64(i)))
		x := begin(t, 1+9*i)
		for range 300 {
			if r.Intn(6) == 0 {
				x.crowd(t, r)
			}
			met[x.both(t, x.drawnCalls(t, r))]++
			if r.Intn(20) == 0 {
				_, _, e := x.r.Reclaim(1 + r.Intn(50))
				want(t, e, api.OK)
			}
			switch r.Intn(10) {
			case 0:
				want(t, x.s.Commit(), api.OK)
			case 1, 2:
				// Without it too many counts come to be great.
				x.s.Undo()
			}
		}
	}
	for _, e := range []api.Errno{api.OK, api.ErrName, api.ErrNone, api.ErrRange, api.ErrMany} {
		if met[e] < 20 {
			t.Errorf("%v was met %d times only", e, met[e])
		}
	}
}

// TestExamples: the edges, one by one.
func TestExamples(t *testing.T) {
	x := begin(t, 4)
	a, sa := x.keep(t, "a"), x.keep(t, "s(a)")
	want(t, x.s.Commit(), api.OK)
	setCount := func(at api.Addr, n int) {
		y, _, e := x.r.Nodes().Get(at)
		want(t, e, api.OK)
		y.Count = n
		want(t, x.r.Nodes().Set(y), api.OK)
	}
	keep := func(s string) call { return call{term: read(t, s)} }
	drop := func(at api.Addr) call { return call{addr: at} }
	for i, c := range []struct {
		count int // of a
		calls []call
		want  api.Errno
	}{
		{2, []call{drop(a), drop(a)}, api.OK},
		{2, []call{drop(a), drop(a), drop(a)}, api.ErrRange},
		{2, []call{drop(a), drop(a), keep("a"), drop(a)}, api.OK},
		{2, []call{drop(sa), drop(sa)}, api.ErrRange},
		{2, []call{keep("a"), drop(a), drop(a), drop(a), drop(a)}, api.ErrRange},
		{2, []call{keep("s(s(a))"), drop(sa), drop(sa), drop(sa)}, api.ErrRange},
		{2, []call{drop(0)}, api.ErrNone},
		{2, []call{drop(sa + 1)}, api.ErrNone},
		{2, []call{drop(math.MaxUint64)}, api.ErrNone},
		{2, []call{{term: api.Term{}}}, api.ErrForm},
		{2, []call{keep("b"), {term: make(api.Term, 65)}}, api.ErrBig},
		{math.MaxUint32 - 1, []call{keep("a")}, api.OK},
		{math.MaxUint32 - 1, []call{keep("a"), keep("a")}, api.ErrMany},
		{math.MaxUint32 - 1, []call{keep("a"), drop(a), keep("a")}, api.OK},
		{math.MaxUint32 - 1, []call{keep("t(a)"), keep("t(a)"), keep("t(t(a))")}, api.OK},
		{math.MaxUint32 - 1, []call{keep("t(a)"), keep("u(a)")}, api.ErrMany},
		{math.MaxUint32 - 1, []call{keep("g(a,a)")}, api.ErrMany},
		{math.MaxUint32 - 1, []call{drop(a), keep("g(a,a)")}, api.OK},
		{math.MaxUint32, []call{keep("s(a)"), keep("s(s(a))")}, api.OK},
		{math.MaxUint32, []call{keep("b"), keep("t(a)")}, api.ErrMany},
	} {
		setCount(a, c.count)
		if e := x.both(t, c.calls); e != c.want {
			t.Errorf("example %d: %v, want %v", i, e, c.want)
		}
		x.s.Undo()
	}
}

// TestTwins: names of one hash that aren't there yet get addresses of their own, and those that are there keep theirs.
func TestTwins(t *testing.T) {
	l := twins()
	if len(l) < 4 {
		t.Fatalf("%d twins only", len(l))
	}
	x := begin(t, 4)
	for _, names := range [][]string{{l[0]}, {l[0], l[1]}, {l[1], l[0]}, {l[2], l[3], l[2], l[0]}} {
		var calls []call
		for _, name := range names {
			calls = append(calls, call{term: read(t, "s("+name+")")}, call{term: read(t, "g("+name+","+names[0]+")")})
		}
		want(t, x.both(t, slices.Concat(calls, calls)), api.OK)
	}
}

// TestNil: of no terms nothing can be looked at.
func TestNil(t *testing.T) {
	for _, r := range []*refs.Refs{nil, refs.At(nil, 35, 37)} {
		l := ahead.At(r)
		want(t, l.Keep(read(t, "s(a)")), api.ErrNil)
		want(t, l.Drop(7), api.ErrNil)
	}
}

// TestPowerOff: calls at which a look with the power off meets nothing are done with the power off, all of them; the look meets ErrDown only where they would.
func TestPowerOff(t *testing.T) {
	t.Parallel()
	met := map[api.Errno]int{}
	alone := 0
	for i, room := range []int{3, 9, 20, 300} {
		r := rand.New(rand.NewSource(int64(i)))
		x := begin(t, room)
		for range 60 {
			x.do(x.drawnCalls(t, r))
		}
		for range 500 {
			calls := x.drawnCalls(t, r)
			want(t, x.s.Commit(), api.OK)
			x.open(t, room)
			for range r.Intn(20) {
				x.r.Has(drawn(r, 1+r.Intn(9)))
			}
			if r.Intn(3) > 0 {
				x.r.Waiting()
			}
			off(x.d)
			n, e := x.look(calls)
			m, f := x.do(calls)
			x.d.Restore()
			met[e]++
			if e == api.OK && f != api.OK || f == api.ErrDown && e != api.ErrDown || n > m {
				t.Fatalf("%v: %d went well, then %v; they looked as if %d would, then %v", calls, m, f, n, e)
			}
			// A Drop that lets nothing come to wait doesn't read the list.
			alone += n - m
			if r.Intn(4) > 0 {
				x.s.Undo()
			}
		}
	}
	for _, e := range []api.Errno{api.OK, api.ErrDown, api.ErrNone, api.ErrRange} {
		if met[e] < 20 {
			t.Errorf("%v was met %d times only", e, met[e])
		}
	}
	if -alone > 200 {
		t.Errorf("looks met ErrDown %d calls too early", -alone)
	}
}

// TestFullDisk: a look tells nothing of room.
func TestFullDisk(t *testing.T) {
	x := begin(t, 4)
	for i := 0; ; i++ {
		calls := []call{{term: read(t, fmt.Sprintf("k(s%d,t%d,u%d,v%d)", i, i, i, i))}}
		if _, e := x.look(calls); e != api.OK {
			t.Fatal(e)
		}
		if _, e := x.do(calls); e == api.ErrFull {
			return
		}
	}
}
