package refs_test

import (
	"fmt"
	"math/rand"
	"slices"
	"testing"

	"aumbry/api"
	"aumbry/refs"
)

// TestPowerOff: a call that meets ErrDown answers nothing beside it, and has changed nothing; one that doesn't meet it has done all (R2, R6). With room for many pages all is held, with little nearly nothing is.
func TestPowerOff(t *testing.T) {
	t.Parallel()
	r := rand.New(rand.NewSource(7))
	met := map[string]int{}
	for _, room := range []int{1, 3, 6, 12, 300} {
		p := begin(t, 900, room)
		draw := func(r *rand.Rand) string { return drawn(r, 1+r.Intn(7), 12) }
		for i := range 1500 {
			p.warm(t, r, draw)
			off(p.d)
			down := p.try(t, r, draw, met)
			p.d.Restore()
			if down || i%10 == 0 {
				p.holdAll(t)
			}
			if r.Intn(6) == 0 {
				p.commit(t)
			}
			if i%300 == 299 {
				p.empty(t, r)
			}
		}
	}
	for _, call := range []string{"keep", "hold", "drop", "load", "has", "reclaim", "waiting"} {
		for _, how := range []string{" ok", " down"} {
			if met[call+how] < 50 {
				t.Errorf("%s%s was met %d times only", call, how, met[call+how])
			}
		}
	}
	for _, rare := range []string{"added", "out", "waits"} {
		if met[rare] < 50 {
			t.Errorf("of those that went well with the power off %d only were of the kind %s", met[rare], rare)
		}
	}
}

// warm reads some pages, which are held then.
func (p *pair) warm(t *testing.T, r *rand.Rand, draw pool) {
	t.Helper()
	for range r.Intn(6) {
		x, _, _ := p.r.Has(read(t, draw(r)))
		p.r.Load(x)
	}
	if r.Intn(3) == 0 {
		p.r.Waiting()
	}
	if r.Intn(9) == 0 {
		p.r.Nodes().Pages()
	}
	if r.Intn(3) > 0 {
		p.s.Free()
	}
}

// try does one call with the power off, and to the model what it has done; it answers whether the power was met.
func (p *pair) try(t *testing.T, r *rand.Rand, draw pool, met map[string]int) bool {
	t.Helper()
	s, a, held := draw(r), p.any(t, r), p.some(r)
	call, e, right := "", api.OK, false
	switch r.Intn(10) {
	case 0, 1, 2:
		call = "keep"
		e, right = p.tryKeep(t, s, met)
	case 3:
		call = "hold"
		e = p.r.Hold(a)
		right = e == api.ErrDown || e == p.m.hold(t, a)
	case 4, 5:
		call = "drop"
		e = p.r.Drop(held)
		right = e == api.ErrDown || e == p.tryDrop(t, held, met)
	case 6:
		call = "load"
		var x api.Term
		x, e = p.r.Load(a)
		right = e == api.ErrDown && len(x) == 0 || e == api.ErrNone && len(x) == 0 && p.m.text(t, a) == "" || e == api.OK && text(x) == p.m.text(t, a)
	case 7:
		call = "has"
		var b api.Addr
		var found bool
		b, found, e = p.r.Has(read(t, s))
		w := p.m.address(t, s)
		right = e == api.ErrDown && b == 0 && !found || e == api.OK && b == w && found == (w != 0)
	case 8:
		call = "reclaim"
		e, right = p.tryReclaim(t, r.Intn(6), met)
	case 9:
		call = "waiting"
		var l []api.Addr
		l, e = p.r.Waiting()
		right = e == api.ErrDown && len(l) == 0 || e == api.OK && slices.Equal(l, p.m.queue)
	}
	if !right {
		t.Fatalf("behind %v: %s(%s, %x, %x): %v", p.last(), call, s, a, held, e)
	}
	p.act("%s(%s, %x, %x): %v", call, s, a, held, e)
	met[call+map[api.Errno]string{api.OK: " ok", api.ErrDown: " down", api.ErrNone: " none"}[e]]++
	return e == api.ErrDown
}

func (p *pair) tryKeep(t *testing.T, s string, met map[string]int) (api.Errno, bool) {
	t.Helper()
	a, e := p.r.Keep(read(t, s))
	if e != api.OK {
		return e, e == api.ErrDown && a == 0
	}
	nodes := len(p.m.all(t))
	right := a == p.m.keep(t, read(t, s))
	if len(p.m.all(t)) > nodes+1 {
		met["added"]++
	}
	return e, right
}

func (p *pair) tryDrop(t *testing.T, a api.Addr, met map[string]int) api.Errno {
	t.Helper()
	waiting := len(p.m.queue)
	e := p.m.drop(t, a)
	met["waits"] += len(p.m.queue) - waiting
	return e
}

func (p *pair) tryReclaim(t *testing.T, n int, met map[string]int) (api.Errno, bool) {
	t.Helper()
	out, done, e := p.r.Reclaim(n)
	if e != api.OK {
		return e, e == api.ErrDown && out == 0 && !done
	}
	wantOut, wantDone := p.m.reclaim(t, n)
	met["out"] += out
	return e, out == wantOut && done == wantDone
}

// TestNewDown: New takes no page with the power off.
func TestNewDown(t *testing.T) {
	d, s := opened(t, 64, 1)
	_, _ = s.Head()
	off(d)
	dir, list, e := refs.New(s)
	d.Restore()
	if dir != 0 || list != 0 || e != api.ErrDown || len(s.Taken()) != 0 {
		t.Errorf("New: %d, %d, %v, taken %v", dir, list, e, s.Taken())
	}
}

// TestAllDown: where no page is held every call that has to read answers ErrDown, but errors that are named ahead of reading.
func TestAllDown(t *testing.T) {
	p := begin(t, 200, 1)
	a := p.keep(t, wide(1))
	p.drop(t, p.keep(t, "s(a)"))
	p.commit(t)
	for range 2 {
		p.open(t, 1)
		off(p.d)
		failing(t, p.r, read(t, wide(1)), a, api.ErrDown)
		failing(t, p.r, read(t, "new"), 65537, api.ErrDown)
		failingTerm(t, p.r, nil, api.ErrForm)
		failingTerm(t, p.r, api.Term{{Name: "Aa"}}, api.ErrName)
		p.d.Restore()
		p.holdAll(t)
	}
}

// TestGivenUp: wherever in a call the pages that are held end, nothing has changed, and with the power on the call goes as if it hadn't been tried.
func TestGivenUp(t *testing.T) {
	t.Parallel()
	for _, s := range []string{"f(n1,n2,n3,n4)", "g(n40,new)", "s(s(new))", "f(new,n7,newer,n9)", "n3", fmt.Sprintf("f(%s,%s)", twins()[0][0], twins()[0][1])} {
		for warm := range 24 {
			p := begin(t, 200, 8)
			for i := range 80 {
				p.keep(t, fmt.Sprintf("s(n%d)", i))
			}
			p.drop(t, p.m.address(t, "s(n5)"))
			p.keep(t, twins()[0][0])
			p.commit(t)
			p.open(t, 40)
			for i := range warm {
				p.r.Has(read(t, fmt.Sprintf("n%d", i)))
			}
			off(p.d)
			a, e := p.r.Keep(read(t, s))
			out, _, eOut := p.r.Reclaim(2)
			p.d.Restore()
			if e == api.OK && a != p.m.keep(t, read(t, s)) || e != api.OK && (e != api.ErrDown || a != 0) {
				t.Fatalf("Keep(%s): %x, %v", s, a, e)
			}
			if eOut == api.OK {
				p.m.reclaim(t, 2)
			} else if eOut != api.ErrDown || out != 0 {
				t.Fatalf("Reclaim: %d, %v", out, eOut)
			}
			p.holdAll(t)
			p.keep(t, s)
			p.reclaim(t, 2)
			p.holdAll(t)
		}
	}
}

// TestCut: wherever the power fails in a Commit, all of what was done since the last one is there in a space that is opened anew, or nothing of it; the counts are right in both.
func TestCut(t *testing.T) {
	t.Parallel()
	r := rand.New(rand.NewSource(8))
	p := begin(t, 500, 3)
	p.commit(t)
	few, before, after := pools()["few"], 0, 0
	for range 150 {
		k := p.m.kept()
		for range 1 + r.Intn(6) {
			p.step(t, r, few, 40)
			p.step(t, r, func(r *rand.Rand) string { return drawn(r, 1+r.Intn(9), 20) }, 40)
		}
		p.d.Cut(r.Intn(40))
		done := p.s.Commit()
		p.d.Restore()
		p.open(t, 3)
		if done == api.OK || p.same(t) {
			want(t, p.m.s.Commit(), api.OK)
			after++
		} else {
			p.m.undo(k)
			before++
		}
		p.holdAll(t)
	}
	if before < 20 || after < 20 {
		t.Errorf("%d were as ahead, %d as behind", before, after)
	}
}

// same: the pages are those of the model.
func (p *pair) same(t *testing.T) bool {
	t.Helper()
	taken := p.m.s.Taken()
	if !slices.Equal(p.s.Taken(), taken) {
		return false
	}
	for _, at := range taken {
		if pageOf(t, p.s, at) != pageOf(t, p.m.s, at) {
			return false
		}
	}
	return true
}
