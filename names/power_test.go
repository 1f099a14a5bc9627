package names_test

import (
	"fmt"
	"math/rand"
	"slices"
	"testing"

	"aumbry/api"
	"aumbry/names"
)

// call is one that is tried with the power off: its error, and whether all it answers is right, as the model tells it if the error is OK.
type call struct {
	what string
	do   func(t *testing.T, p *pair) (api.Errno, bool)
}

func declaring(name string, arity int) call {
	return call{"declare", func(t *testing.T, p *pair) (api.Errno, bool) {
		e := p.n.Declare(name, arity)
		return e, e == api.ErrDown || e == p.m.declare(t, name, arity)
	}}
}

func setting(name string, x api.Term) call {
	return call{"set", func(t *testing.T, p *pair) (api.Errno, bool) {
		e := p.n.Set(name, x)
		return e, e == api.ErrDown || e == p.m.set(t, name, x)
	}}
}

func forgetting(name string) call {
	return call{"forget", func(t *testing.T, p *pair) (api.Errno, bool) {
		found, e := p.n.Forget(name)
		return e, e == api.ErrDown && !found || e == api.OK && found == p.m.forget(t, name)
	}}
}

func getting(name string) call {
	return call{"get", func(t *testing.T, p *pair) (api.Errno, bool) {
		x, found, e := p.n.Get(name)
		s, there := p.m.named[name]
		return e, e == api.ErrDown && !found && len(x) == 0 || e == api.OK && found == there && (text(x) == s || !there && len(x) == 0)
	}}
}

func fitting(x api.Term) call {
	return call{"fits", func(t *testing.T, p *pair) (api.Errno, bool) {
		e := p.n.Fits(x)
		return e, e == api.ErrDown || e == p.m.fits(x)
	}}
}

func looking() []call {
	return []call{
		{"symbols", func(t *testing.T, p *pair) (api.Errno, bool) {
			l, e := p.n.Symbols()
			return e, e == api.ErrDown && len(l) == 0 || e == api.OK && slices.Equal(l, p.m.sorted())
		}},
		{"order", func(t *testing.T, p *pair) (api.Errno, bool) {
			l, e := p.n.Order()
			return e, e == api.ErrDown && len(l) == 0 || e == api.OK && slices.Equal(l, p.m.order())
		}},
		{"names", func(t *testing.T, p *pair) (api.Errno, bool) {
			l, e := p.n.Names()
			return e, e == api.ErrDown && len(l) == 0 || e == api.OK && slices.Equal(l, p.m.names())
		}},
	}
}

// try does one call with the power off, and answers whether that was met.
func (p *pair) try(t *testing.T, c call, met map[string]int) bool {
	t.Helper()
	off(p.d)
	e, right := c.do(t, p)
	p.d.Restore()
	p.act("%s with the power off: %v", c.what, e)
	if !right {
		t.Fatalf("behind %v: the answer isn't right", p.last())
	}
	how := " ok"
	if e == api.ErrDown {
		how = " down"
	}
	met[c.what+how]++
	return e == api.ErrDown
}

func (p *pair) drawnCall(r *rand.Rand, l pool) call {
	name, x := p.someName(r, l), l.some(r)
	switch r.Intn(12) {
	case 0:
		return declaring(x.Name, x.Arity)
	case 1, 2:
		return setting(l.name(r), p.right(r, l))
	case 3, 4:
		return setting(name, p.right(r, l))
	case 5, 6:
		return forgetting(name)
	case 7:
		return getting(name)
	case 8:
		return fitting(l.any(r, 1+r.Intn(9)))
	default:
		return looking()[r.Intn(3)]
	}
}

// warm reads some pages, which are held then.
func (p *pair) warm(t *testing.T, r *rand.Rand, l pool) {
	t.Helper()
	if r.Intn(4) > 0 {
		p.n.Names()
	}
	if r.Intn(4) > 0 {
		p.n.Order()
	}
	for range r.Intn(12) {
		p.n.Get(p.someName(r, l))
	}
	if r.Intn(3) == 0 {
		p.r.Waiting()
	}
	if r.Intn(9) == 0 {
		p.r.Nodes().Pages()
	}
}

// TestPowerOff: a call that meets ErrDown answers nothing beside it, and has changed nothing; one that doesn't meet it has done all (R2, R6). With room for many pages all is held, with little nearly nothing is.
func TestPowerOff(t *testing.T) {
	t.Parallel()
	r := rand.New(rand.NewSource(7))
	met := map[string]int{}
	for i, room := range []int{1, 3, 8, 20, 300} {
		p, l := begin(t, 1200, room), pools()[[]string{"few", "many"}[i%2]]
		for range 40 {
			p.step(t, r, l, 10)
		}
		for i := range 500 {
			p.warm(t, r, l)
			if p.try(t, p.drawnCall(r, l), met) || i%10 == 0 {
				p.holdAll(t)
			}
			if r.Intn(6) == 0 {
				p.commit(t)
				p.open(t, room)
			}
		}
	}
	for _, what := range []string{"declare", "set", "forget", "get", "fits", "symbols", "order", "names"} {
		for _, how := range []string{" ok", " down"} {
			if met[what+how] < 20 {
				t.Errorf("%s%s was met %d times only", what, how, met[what+how])
			}
		}
	}
}

// filled is a pair whose trees and nodes lie on many pages, and where some nodes wait.
func filled(t *testing.T) *pair {
	t.Helper()
	p := begin(t, 400, 30)
	p.declared(t, "a/0", "b/0", "s/1", "g/2")
	for i := range 50 {
		want(t, p.declare(t, fmt.Sprintf("n%d", i), i%3), api.OK)
	}
	for i := range 40 {
		want(t, p.set(t, fmt.Sprintf("x%d", i), fmt.Sprintf("g(n%d,s(n%d))", i/3*3, i%15*3)), api.OK)
	}
	for i := range 5 {
		p.forget(t, fmt.Sprintf("x%d", 7*i))
	}
	p.commit(t)
	return p
}

// TestEachPage: with the power off, and any one page not held, or those behind it neither, a call is done or has changed nothing; then it goes as if it hadn't been tried.
func TestEachPage(t *testing.T) {
	p := filled(t)
	calls := append(looking(),
		declaring("new", 2), declaring("n7", 0), declaring("n50", 3),
		setting("x1", read(t, "s(s(n9))")), setting("x20", read(t, "a")), setting("x39", read(t, "g(n12,s(n3))")),
		setting("x38", read(t, "s(n9)")), setting("x38", read(t, "g(n36,s(n24))")), setting("x38", read(t, "n36")),
		setting("new", read(t, "g(n9,b)")), setting("x0", read(t, "n3")), setting("x15", read(t, "s(X)")),
		forgetting("x1"), forgetting("x20"), forgetting("x39"), forgetting("x0"), forgetting("x4"),
		getting("x2"), getting("x0"), getting("x30"), fitting(read(t, "g(n1(X),n0)")))
	taken, met := p.s.Taken(), map[string]int{}
	for i, c := range calls {
		for _, missing := range taken {
			for _, behind := range []bool{false, true} {
				q := p.again(t, 1024)
				for _, at := range taken {
					if at != missing && (!behind || at < missing) {
						_, e := q.s.Get(at)
						want(t, e, api.OK)
					}
				}
				if q.try(t, c, met) {
					q.holdPages(t)
					if e, right := c.do(t, q); e == api.ErrDown || !right {
						t.Fatalf("call %d, without page %d: %v", i, missing, e)
					}
				}
				q.holdPages(t)
			}
		}
	}
	for _, c := range calls {
		for _, how := range []string{" ok", " down"} {
			if met[c.what+how] == 0 {
				t.Errorf("%s%s was never met", c.what, how)
			}
		}
	}
}

// TestNewDown: New takes no page with the power off.
func TestNewDown(t *testing.T) {
	d, s := opened(t, 64, 1)
	_, _ = s.Head()
	off(d)
	symbols, terms, e := names.New(s)
	d.Restore()
	if symbols != 0 || terms != 0 || e != api.ErrDown || len(s.Taken()) != 0 {
		t.Errorf("New: %d, %d, %v, taken %v", symbols, terms, e, s.Taken())
	}
}

// TestAllDown: where no page is held every call that has to read answers ErrDown, but errors that are named ahead of reading.
func TestAllDown(t *testing.T) {
	p := filled(t)
	for range 2 {
		p.open(t, 1)
		off(p.d)
		failing(t, p.n, "x1", 1, read(t, "a"), api.ErrDown)
		failing(t, p.n, "new", 0, read(t, "s(new)"), api.ErrDown)
		want(t, p.n.Declare("X", 0), api.ErrName)
		want(t, p.n.Declare("a", 5), api.ErrArity)
		want(t, p.n.Fits(nil), api.ErrForm)
		want(t, p.n.Set("X", read(t, "a")), api.ErrName)
		want(t, p.n.Set("x1", api.Term{{Name: "Aa"}}), api.ErrName)
		p.d.Restore()
		p.holdAll(t)
	}
}

// TestCut: wherever the power fails in a Commit, all of what was done since the last one is there in a space that is opened anew, or nothing of it; each name holds its term once in both.
func TestCut(t *testing.T) {
	t.Parallel()
	r := rand.New(rand.NewSource(8))
	p := begin(t, 900, 3)
	l, before, after := pools()["few"], 0, 0
	for _, x := range l {
		want(t, p.declare(t, x.Name, x.Arity), api.OK)
	}
	p.commit(t)
	for range 150 {
		k := p.m.again()
		for range 1 + r.Intn(6) {
			p.step(t, r, l, 30)
		}
		p.d.Cut(r.Intn(30))
		done := p.s.Commit()
		p.d.Restore()
		p.open(t, 3)
		if done == api.OK || p.same(t) {
			want(t, p.m.s.Commit(), api.OK)
			after++
		} else {
			p.m.undo(k)
			before++
		}
		p.holdAll(t)
	}
	if before < 20 || after < 20 {
		t.Errorf("%d were as ahead, %d as behind", before, after)
	}
}
