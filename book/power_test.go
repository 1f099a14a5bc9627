package book_test

import (
	"fmt"
	"math/rand"
	"slices"
	"testing"

	"aumbry/api"
	"aumbry/book"
)

// call is one that is tried with the power off: its error, and whether all it answers is right, as the model tells it if the error is OK.
type call struct {
	what string
	do   func(t *testing.T, p *pair) (api.Errno, bool)
}

func adding(x api.Rule) call {
	return call{"add", func(t *testing.T, p *pair) (api.Errno, bool) {
		id, e := p.b.Add(x)
		if e == api.ErrDown {
			return e, id == 0
		}
		w, f := p.m.add(t, x)
		return e, id == w && e == f
	}}
}

func removing(id int) call {
	return call{"remove", func(t *testing.T, p *pair) (api.Errno, bool) {
		x, found, e := p.b.Remove(id)
		if e != api.OK {
			return e, e == api.ErrDown && !found && alike(x, api.Rule{})
		}
		y, there := p.m.remove(t, id)
		return e, found == there && alike(x, y)
	}}
}

func looking() []call {
	return []call{
		{"list", func(t *testing.T, p *pair) (api.Errno, bool) {
			l, e := p.b.List()
			return e, e == api.ErrDown && len(l) == 0 || e == api.OK && slices.EqualFunc(l, p.m.rules, alike)
		}},
		{"version", func(t *testing.T, p *pair) (api.Errno, bool) {
			n, e := p.b.Version()
			return e, e == api.ErrDown && n == 0 || e == api.OK && n == p.m.changes
		}},
	}
}

// try does one call with the power off, and answers whether that was met.
func (p *pair) try(t *testing.T, c call, met map[string]int) bool {
	t.Helper()
	off(p.d)
	e, right := c.do(t, p)
	p.d.Restore()
	p.act("%s with the power off: %v", c.what, e)
	if !right {
		t.Fatalf("behind %v: the answer isn't right", p.last())
	}
	how := " ok"
	if e == api.ErrDown {
		how = " down"
	}
	met[c.what+how]++
	return e == api.ErrDown
}

func (p *pair) drawnCall(r *rand.Rand, l pool) call {
	switch r.Intn(8) {
	case 0, 1, 2:
		return adding(l.any(r))
	case 3, 4, 5:
		return removing(p.someID(r))
	default:
		return looking()[r.Intn(2)]
	}
}

// warm reads some pages, which are held then.
func (p *pair) warm(t *testing.T, r *rand.Rand, l pool) {
	t.Helper()
	if r.Intn(4) > 0 {
		p.b.Version()
	}
	if r.Intn(3) == 0 {
		p.b.List()
	}
	if r.Intn(3) == 0 {
		p.r.Waiting()
	}
	for range r.Intn(30) {
		p.r.Has(p.someTerm(r, l))
	}
	if r.Intn(5) == 0 {
		p.r.Nodes().Pages()
	}
}

// TestPowerOff: a call that meets ErrDown answers nothing beside it, and has changed nothing; one that doesn't meet it has done all (R2, R6). With room for many pages all is held, with little nearly nothing is.
func TestPowerOff(t *testing.T) {
	t.Parallel()
	r := rand.New(rand.NewSource(7))
	met := map[string]int{}
	for i, room := range []int{1, 3, 8, 20, 300} {
		p, l := begin(t, 1200, room), pools()[[]string{"few", "many"}[i%2]]
		for range 40 {
			p.step(t, r, l, 10)
		}
		for i := range 400 {
			p.warm(t, r, l)
			if p.try(t, p.drawnCall(r, l), met) || i%10 == 0 {
				p.holdAll(t)
			}
			if r.Intn(6) == 0 {
				p.commit(t)
				p.open(t, room)
			}
		}
	}
	for _, what := range []string{"add", "remove", "list", "version"} {
		for _, how := range []string{" ok", " down"} {
			if met[what+how] < 20 {
				t.Errorf("%s%s was met %d times only", what, how, met[what+how])
			}
		}
	}
}

// filled is a pair whose tree and nodes lie on many pages, and where some nodes wait.
func filled(t *testing.T) *pair {
	t.Helper()
	p := begin(t, 400, 30)
	for i := range 40 {
		p.add(t, fmt.Sprintf("g(%s,n%d) -> s(n%d)", tower(1+i%4, "s", "X"), i/3*3, i%15*3), i+1)
	}
	for i := range 4 {
		p.remove(t, 1+9*i)
	}
	p.commit(t)
	return p
}

// TestEachPage: with the power off, and any one page not held, or those behind it neither, a call is done or has changed nothing; then it goes as if it hadn't been tried.
func TestEachPage(t *testing.T) {
	t.Parallel()
	p := filled(t)
	calls := append(looking(),
		adding(sides(t, "a -> b")), adding(sides(t, "g(X,n9) -> s(n3)")), adding(sides(t, "s(Y) -> s(s(Y))")), adding(sides(t, "h(n0,n21) -> h(n21,n0)")), adding(sides(t, "X -> X")),
		removing(2), removing(7), removing(20), removing(31), removing(39), removing(40), removing(1), removing(41))
	taken, met := p.s.Taken(), map[string]int{}
	for i, c := range calls {
		for _, missing := range taken {
			for _, behind := range []bool{false, true} {
				q := p.again(t, 1024)
				for _, at := range taken {
					if at != missing && (!behind || at < missing) {
						_, e := q.s.Get(at)
						want(t, e, api.OK)
					}
				}
				if q.try(t, c, met) {
					q.holdPages(t)
					if e, right := c.do(t, q); e == api.ErrDown || !right {
						t.Fatalf("call %d, without page %d: %v", i, missing, e)
					}
				}
				q.holdPages(t)
			}
		}
	}
	for _, c := range calls {
		for _, how := range []string{" ok", " down"} {
			if met[c.what+how] == 0 {
				t.Errorf("%s%s was never met", c.what, how)
			}
		}
	}
}

// TestNewDown: New takes no page with the power off.
func TestNewDown(t *testing.T) {
	d, s := opened(t, 64, 1)
	_, _ = s.Head()
	off(d)
	root, e := book.New(s)
	d.Restore()
	if root != 0 || e != api.ErrDown || len(s.Taken()) != 0 {
		t.Errorf("New: %d, %v, taken %v", root, e, s.Taken())
	}
}

// TestAllDown: where no page is held every call that has to read answers ErrDown, but errors that are named ahead of reading.
func TestAllDown(t *testing.T) {
	p := filled(t)
	for range 2 {
		p.open(t, 1)
		off(p.d)
		failing(t, p.b, sides(t, "a -> b"), 2, api.ErrDown)
		failing(t, p.b, sides(t, "s(X) -> X"), -1, api.ErrDown)
		for _, x := range refusals(t) {
			if id, e := p.b.Add(x.x); id != 0 || e != x.want {
				t.Errorf("Add(%s): %d, %v, want %v", told(x.x), id, e, x.want)
			}
		}
		p.d.Restore()
		p.holdAll(t)
	}
}

// TestCut: wherever the power fails in a Commit, all of what was done since the last one is there in a space that is opened anew, or nothing of it; each rule holds its sides once in both.
func TestCut(t *testing.T) {
	t.Parallel()
	r := rand.New(rand.NewSource(8))
	p := begin(t, 900, 3)
	l, before, after := pools()["few"], 0, 0
	for range 150 {
		k := p.m.again()
		for range 1 + r.Intn(6) {
			p.step(t, r, l, 30)
		}
		p.d.Cut(r.Intn(30))
		done := p.s.Commit()
		p.d.Restore()
		p.open(t, 3)
		if done == api.OK || p.same(t) {
			want(t, p.m.s.Commit(), api.OK)
			after++
		} else {
			p.m.undo(k)
			before++
		}
		p.holdAll(t)
	}
	if before < 20 || after < 20 {
		t.Errorf("%d were as ahead, %d as behind", before, after)
	}
}
