package book_test

import (
	"fmt"
	"math/rand"
	"slices"
	"testing"

	"aumbry/api"
	"aumbry/book"
	"aumbry/refs"
)

// step does one act; of 100 of them so many remove.
func (p *pair) step(t *testing.T, r *rand.Rand, l pool, share int) {
	t.Helper()
	switch n := r.Intn(100); {
	case n < share:
		p.remove(t, p.someID(r))
	case n < share+6:
		p.drop(t, r)
	case n < share+12:
		p.keep(t, p.someTerm(r, l))
	case n < share+20:
		p.reclaim(t, r.Intn(6))
	default:
		p.addRule(t, l.any(r))
	}
}

// someID is mostly a rule's number.
func (p *pair) someID(r *rand.Rand) int {
	switch {
	case r.Intn(15) == 0:
		return []int{-1, 0, p.m.next, 65535, 65536, 1 << 40, -1 << 62}[r.Intn(7)]
	case len(p.m.rules) == 0 || r.Intn(10) == 0:
		return r.Intn(p.m.next + 1)
	}
	return p.m.rules[r.Intn(len(p.m.rules))].ID
}

// someTerm is a side of a rule that is there, or a term that may be.
func (p *pair) someTerm(r *rand.Rand, l pool) api.Term {
	if len(p.m.rules) == 0 || r.Intn(3) == 0 {
		return l.term(r, 1+r.Intn(9), l.vars)
	}
	x := p.m.rules[r.Intn(len(p.m.rules))]
	if r.Intn(2) == 0 {
		return x.Left
	}
	return x.Right
}

// empty removes all rules, lets all go that is held, and releases all.
func (p *pair) empty(t *testing.T, r *rand.Rand) {
	t.Helper()
	for len(p.m.rules) > 0 {
		p.remove(t, p.someID(r))
	}
	for len(p.m.held) > 0 {
		p.drop(t, r)
	}
	p.holdAll(t)
	for !p.reclaim(t, 1+r.Intn(20)) {
	}
	p.holdAll(t)
	if l, e := p.r.Nodes().List(); len(l) != 0 || e != api.OK {
		t.Fatalf("left are %v, %v", l, e)
	}
}

// TestLives: drawn ones, held against the model, page by page (P19.1 to P19.3).
func TestLives(t *testing.T) {
	for name, l := range pools() {
		for i, share := range []int{3, 20, 45} {
			t.Run(fmt.Sprint(name, i), func(t *testing.T) {
				t.Parallel()
				r := rand.New(rand.NewSource(int64(i)))
				p := begin(t, 1500, 1+r.Intn(6))
				for j := range 300 {
					p.step(t, r, l, share)
					p.ask(t)
					if j%5 == 0 {
						p.holdAll(t)
					}
				}
				if share == 3 && len(p.m.rules) != api.MaxRules {
					t.Errorf("%d rules only", len(p.m.rules))
				}
				p.empty(t, r)
				for range 60 {
					p.step(t, r, l, share)
				}
				p.empty(t, r)
			})
		}
	}
}

// shortActs are what TestShortLives does with few rules, whose sides are alike, or parts of one another.
func shortActs(t *testing.T, p *pair) []func() {
	act := func(s string) func() { return func() { p.addRule(t, sides(t, s)) } }
	return []func(){
		act("a -> a"),
		act("s(a) -> a"),
		act("s(Y) -> s(Y)"),
		act("X -> a"),
		func() { p.remove(t, 1) },
		func() { p.remove(t, 2) },
		func() { p.remove(t, p.m.next-1) },
		func() { p.reclaim(t, 1) },
	}
}

// TestShortLives: everything that few rules can go through in a few calls.
func TestShortLives(t *testing.T) {
	t.Parallel()
	for _, first := range [][]string{nil, {"s(a) -> a"}} {
		life := make([]int, 4)
		for {
			p := begin(t, 64, 2)
			for i, x := range first {
				p.add(t, x, i+1)
			}
			acts := shortActs(t, p)
			for _, i := range life {
				acts[i]()
			}
			p.holdAll(t)
			if !next(life, len(acts)) {
				break
			}
		}
	}
}

// next counts a life on, as a number whose digits are below base; false behind the last one.
func next(life []int, base int) bool {
	for i := range life {
		life[i]++
		if life[i] < base {
			return true
		}
		life[i] = 0
	}
	return false
}

// TestOpenedAnew: what was committed is there in a space that is opened anew; what wasn't isn't.
func TestOpenedAnew(t *testing.T) {
	t.Parallel()
	r := rand.New(rand.NewSource(3))
	p := begin(t, 1200, 4)
	l := pools()["many"]
	for range 40 {
		for range 6 {
			p.step(t, r, l, 20)
		}
		p.commit(t)
		k := p.m.again()
		for range 5 {
			p.step(t, r, l, 40)
		}
		p.m.undo(k)
		if r.Intn(2) == 0 {
			p.s.Undo()
		} else {
			p.open(t, 1+r.Intn(4))
		}
		p.holdAll(t)
	}
}

// TestTwoOfThem: several of one space, two of them with one file of nodes, each asked through objects of its own every time, go on side by side.
func TestTwoOfThem(t *testing.T) {
	_, s := opened(t, 900, 3)
	type one struct {
		places
		kept
	}
	var all []one
	for i := range 3 {
		x := one{kept: kept{next: 1}}
		if i == 1 {
			x.places = all[0].places
		} else {
			var e api.Errno
			x.dir, x.list, e = refs.New(s)
			want(t, e, api.OK)
		}
		var e api.Errno
		x.root, e = book.New(s)
		want(t, e, api.OK)
		all = append(all, x)
	}
	mine := func(x one) (*refs.Refs, *book.Book) {
		r := refs.At(s, x.dir, x.list)
		return r, book.At(s, r, x.root)
	}
	l := pools()["few"]
	r := rand.New(rand.NewSource(2))
	for range 600 {
		x := &all[r.Intn(3)]
		_, b := mine(*x)
		if i := r.Intn(30); i < len(x.rules) {
			y, found, e := b.Remove(x.rules[i].ID)
			if !alike(y, x.rules[i]) || !found || e != api.OK {
				t.Fatal(told(y), found, e)
			}
			x.rules = slices.Delete(x.rules, i, i+1)
			x.changes++
			continue
		}
		y := plain(l.rule(r))
		id, e := b.Add(y)
		if id != x.next || e != api.OK {
			t.Fatal(id, e)
		}
		y.ID = id
		x.rules = append(x.rules, y)
		x.next++
		x.changes++
	}
	for _, x := range all {
		_, b := mine(x)
		if l, e := b.List(); !slices.EqualFunc(l, x.rules, alike) || e != api.OK {
			t.Errorf("List: %v, %v, want %v", l, e, x.rules)
		}
		wantVersion(t, b, x.changes)
		for _, y := range x.rules {
			if _, found, e := b.Remove(y.ID); !found || e != api.OK {
				t.Errorf("Remove: %v, %v", found, e)
			}
		}
	}
	for _, x := range all {
		r, _ := mine(x)
		_, done, e := r.Reclaim(1 << 30)
		if l, _ := r.Nodes().List(); !done || len(l) != 0 || e != api.OK {
			t.Errorf("left are %v, %v", l, e)
		}
	}
}

// TestSameAgain: the same calls make the same disk, block by block, whatever room there is (R5).
func TestSameAgain(t *testing.T) {
	t.Parallel()
	var images [][]string
	for _, room := range []int{5, 5, 1, 1024} {
		r := rand.New(rand.NewSource(4))
		p := begin(t, 1200, room)
		for i := range 200 {
			p.step(t, r, pools()["many"], 20)
			if i%9 == 0 {
				p.commit(t)
			}
		}
		p.commit(t)
		images = append(images, p.d.Image())
	}
	for i := range images {
		if !slices.Equal(images[i], images[0]) {
			t.Error("the same calls have come to something else")
		}
	}
}
