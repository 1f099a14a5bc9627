package names_test

import (
	"fmt"
	"maps"
	"math/rand"
	"slices"
	"testing"

	"aumbry/api"
	"aumbry/names"
	"aumbry/refs"
	"aumbry/term"
)

// step does one act; of 100 of them so many forget or let go.
func (p *pair) step(t *testing.T, r *rand.Rand, l pool, share int) {
	t.Helper()
	switch n := r.Intn(100); {
	case n < share:
		p.forget(t, p.someName(r, l))
	case n < share+6:
		p.drop(t, r)
	case n < share+12:
		if x := l.any(r, 1+r.Intn(9)); term.Check(x) == api.OK {
			p.keep(t, x)
		}
	case n < share+20:
		p.reclaim(t, r.Intn(6))
	case n < share+35:
		p.declareDrawn(t, r, l)
	case n < share+40:
		p.setTerm(t, l.name(r), l.any(r, 1+r.Intn(20)))
	case n < share+45:
		p.setTerm(t, p.someName(r, l), p.right(r, l))
	default:
		p.setTerm(t, l.name(r), p.right(r, l))
	}
}

func (p *pair) declareDrawn(t *testing.T, r *rand.Rand, l pool) {
	t.Helper()
	x := l.some(r)
	switch r.Intn(15) {
	case 0:
		x.Name = l.name(r)
	case 1:
		x.Arity = r.Intn(9) - 2
	}
	p.declare(t, x.Name, x.Arity)
}

// someName is a name that is there, or one that may be.
func (p *pair) someName(r *rand.Rand, l pool) string {
	if there := p.m.names(); len(there) > 0 && r.Intn(8) > 0 {
		return there[r.Intn(len(there))]
	}
	return l.name(r)
}

// right is a term of what is declared, if there is one.
func (p *pair) right(r *rand.Rand, l pool) api.Term {
	declared := slices.Clone(pool(p.m.declared))
	if !slices.ContainsFunc(declared, func(x api.Symbol) bool { return x.Arity == 0 }) {
		return l.any(r, 3)
	}
	return declared.ground(r, 1+r.Intn(20))
}

// empty forgets all names, lets all go that is held, and releases all.
func (p *pair) empty(t *testing.T, r *rand.Rand) {
	t.Helper()
	for l := p.m.names(); len(l) > 0; l = p.m.names() {
		p.forget(t, l[r.Intn(len(l))])
	}
	for len(p.m.held) > 0 {
		p.drop(t, r)
	}
	p.holdAll(t)
	for !p.reclaim(t, 1+r.Intn(20)) {
	}
	p.holdAll(t)
	if l, e := p.r.Nodes().List(); len(l) != 0 || e != api.OK {
		t.Fatalf("left are %v, %v", l, e)
	}
}

// TestLives: drawn ones, held against the model, page by page, behind each act (P18.1 to P18.3).
func TestLives(t *testing.T) {
	for name, l := range pools() {
		for i, share := range []int{5, 20, 40} {
			t.Run(fmt.Sprint(name, i), func(t *testing.T) {
				t.Parallel()
				r := rand.New(rand.NewSource(int64(i)))
				p := begin(t, 1500, 1+r.Intn(6))
				for j := range 400 {
					p.step(t, r, l, share)
					p.ask(t, l.name(r), l.any(r, 1+r.Intn(9)))
					if j%5 == 0 {
						p.holdAll(t)
					}
				}
				p.empty(t, r)
				for range 60 {
					p.step(t, r, l, share)
				}
				p.empty(t, r)
			})
		}
	}
}

// shortActs are what TestShortLives does with two names, and terms one of which is a part of the other.
func shortActs(t *testing.T, p *pair) []func() {
	return []func(){
		func() { p.declare(t, "a", 0) },
		func() { p.declare(t, "s", 1) },
		func() { p.set(t, "x", "a") },
		func() { p.set(t, "x", "s(a)") },
		func() { p.set(t, "y", "s(a)") },
		func() { p.forget(t, "x") },
		func() { p.forget(t, "y") },
		func() { p.reclaim(t, 1) },
	}
}

// TestShortLives: everything that two names can go through in a few calls.
func TestShortLives(t *testing.T) {
	t.Parallel()
	for _, declared := range [][]string{nil, {"s/1", "a/0"}} {
		life := make([]int, 4)
		for {
			p := begin(t, 64, 2)
			p.declared(t, declared...)
			acts := shortActs(t, p)
			for _, i := range life {
				acts[i]()
			}
			p.holdAll(t)
			if !next(life, len(acts)) {
				break
			}
		}
	}
}

// next counts a life on, as a number whose digits are below base; false behind the last one.
func next(life []int, base int) bool {
	for i := range life {
		life[i]++
		if life[i] < base {
			return true
		}
		life[i] = 0
	}
	return false
}

// TestOpenedAnew: what was committed is there in a space that is opened anew; what wasn't isn't.
func TestOpenedAnew(t *testing.T) {
	t.Parallel()
	r := rand.New(rand.NewSource(3))
	p := begin(t, 1200, 4)
	l := pools()["many"]
	for range 40 {
		for range 9 {
			p.step(t, r, l, 20)
		}
		p.commit(t)
		k := p.m.again()
		for range 5 {
			p.step(t, r, l, 30)
		}
		p.m.undo(k)
		if r.Intn(2) == 0 {
			p.s.Undo()
		} else {
			p.open(t, 1+r.Intn(4))
		}
		p.holdAll(t)
	}
}

// TestTwoOfThem: several of one space, two of them with one file of nodes, each asked through objects of its own every time, go on side by side.
func TestTwoOfThem(t *testing.T) {
	_, s := opened(t, 900, 3)
	type one struct {
		places
		named map[string]string
	}
	var all []one
	for i := range 3 {
		x := one{named: map[string]string{}}
		if i == 1 {
			x.places = all[0].places
		} else {
			var e api.Errno
			x.dir, x.list, e = refs.New(s)
			want(t, e, api.OK)
		}
		var e api.Errno
		x.symbols, x.terms, e = names.New(s)
		want(t, e, api.OK)
		all = append(all, x)
	}
	mine := func(x one) (*refs.Refs, *names.Names) {
		r := refs.At(s, x.dir, x.list)
		return r, names.At(s, r, x.symbols, x.terms)
	}
	l := pools()["few"]
	for i, x := range all {
		_, n := mine(x)
		for _, y := range l[:len(l)-i] {
			want(t, n.Declare(y.Name, y.Arity), api.OK)
		}
	}
	r := rand.New(rand.NewSource(2))
	for range 600 {
		i := r.Intn(3)
		_, n := mine(all[i])
		name := fmt.Sprintf("n%d", r.Intn(20))
		if _, there := all[i].named[name]; there && r.Intn(2) == 0 {
			found, e := n.Forget(name)
			if !found || e != api.OK {
				t.Fatal(found, e)
			}
			delete(all[i].named, name)
			continue
		}
		x := l[:len(l)-i].ground(r, 1+r.Intn(9))
		want(t, n.Set(name, x), api.OK)
		all[i].named[name] = text(x)
	}
	for i, x := range all {
		_, n := mine(x)
		if o, e := n.Order(); len(o) != len(l)-i || e != api.OK {
			t.Errorf("Order: %v, %v", o, e)
		}
		if l, e := n.Names(); !slices.Equal(l, slices.Sorted(maps.Keys(x.named))) || e != api.OK {
			t.Errorf("Names: %v, %v", l, e)
		}
		for name, s := range x.named {
			if y, found, e := n.Get(name); !found || text(y) != s || e != api.OK {
				t.Errorf("Get: %v, %v, %v, want %s", y, found, e, s)
			}
			if found, e := n.Forget(name); !found || e != api.OK {
				t.Errorf("Forget: %v, %v", found, e)
			}
		}
	}
	for _, x := range all {
		r, _ := mine(x)
		_, done, e := r.Reclaim(1 << 30)
		if l, _ := r.Nodes().List(); !done || len(l) != 0 || e != api.OK {
			t.Errorf("left are %v, %v", l, e)
		}
	}
}

// TestSameAgain: the same calls make the same disk, block by block, whatever room there is (R5).
func TestSameAgain(t *testing.T) {
	t.Parallel()
	var images [][]string
	for _, room := range []int{5, 5, 1, 1024} {
		r := rand.New(rand.NewSource(4))
		p := begin(t, 1200, room)
		for i := range 300 {
			p.step(t, r, pools()["many"], 20)
			if i%9 == 0 {
				p.commit(t)
			}
		}
		p.commit(t)
		images = append(images, p.d.Image())
	}
	for i := range images {
		if !slices.Equal(images[i], images[0]) {
			t.Error("the same calls have come to something else")
		}
	}
}
