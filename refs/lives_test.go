package refs_test

import (
	"fmt"
	"maps"
	"math/rand"
	"slices"
	"testing"

	"aumbry/api"
	"aumbry/refs"
	"aumbry/space"
)

// pool draws the texts of the terms of a life.
type pool func(r *rand.Rand) string

func pools() map[string]pool {
	names, same := narrow("01101", 12), twins()
	return map[string]pool{
		"few":    func(r *rand.Rand) string { return drawn(r, 1+r.Intn(6), 2) },
		"many":   func(r *rand.Rand) string { return drawn(r, 1+r.Intn(64), 9) },
		"all":    func(r *rand.Rand) string { return drawn(r, 1+r.Intn(30), 200) },
		"towers": func(r *rand.Rand) string { return tower(1+r.Intn(64), "s", "a") },
		"narrow": func(r *rand.Rand) string {
			return fmt.Sprintf("g(%s,%s)", names[r.Intn(len(names))], names[r.Intn(len(names))])
		},
		"twins": func(r *rand.Rand) string {
			two, x, y := same[r.Intn(3)], r.Intn(2), r.Intn(2)
			return []string{two[x], "s(" + two[x] + ")", "g(" + two[x] + "," + two[y] + ")", "f(s(" + two[x] + "),s(" + two[y] + "))"}[r.Intn(4)]
		},
	}
}

// step does one act; of 100 of them so many let go.
func (p *pair) step(t *testing.T, r *rand.Rand, draw pool, share int) {
	t.Helper()
	switch n := r.Intn(100); {
	case n < share:
		p.drop(t, p.some(r))
	case n < share+8:
		p.hold(t, p.any(t, r))
	case n < share+20:
		p.reclaim(t, []int{-1, 0, 1, 1, 1, 2, 3, 5, 8, 64}[r.Intn(10)])
	default:
		p.keep(t, draw(r))
	}
}

// empty lets all go that is held, and releases all.
func (p *pair) empty(t *testing.T, r *rand.Rand) {
	t.Helper()
	for _, a := range slices.Sorted(maps.Keys(p.m.held)) {
		for p.m.held[a] > 0 {
			p.drop(t, a)
		}
	}
	p.holdAll(t)
	for done := false; !done; {
		_, done = p.reclaim(t, 1+r.Intn(9))
		p.holdAll(t)
	}
	if l, e := p.r.Nodes().List(); len(l) != 0 || e != api.OK {
		t.Fatalf("left are %v, %v", l, e)
	}
}

// TestLives: drawn ones, held against the model, page by page, behind each act (P17.1 to P17.5).
func TestLives(t *testing.T) {
	for name, draw := range pools() {
		for i, shares := range [][2]int{{10, 70}, {30, 50}, {40, 40}} {
			t.Run(fmt.Sprint(name, i), func(t *testing.T) {
				t.Parallel()
				r := rand.New(rand.NewSource(int64(i)))
				p := begin(t, 1500, 1+r.Intn(6))
				for j := range 300 {
					p.step(t, r, draw, shares[j/50%2])
					if p.m.s.Free() > 1400 || j%20 == 0 {
						p.holdAll(t)
						p.ask(t, p.any(t, r), draw(r))
					}
				}
				p.empty(t, r)
				for range 60 {
					p.step(t, r, draw, shares[0])
				}
				p.empty(t, r)
			})
		}
	}
}

// shortActs are what TestShortLives does with two terms that share their parts.
func shortActs(p *pair, t *testing.T) []func() {
	of := func(s string) api.Addr { return p.m.address(t, s) }
	return []func(){
		func() { p.keep(t, "f(s(a),a)") },
		func() { p.keep(t, "s(a)") },
		func() { p.hold(t, of("a")) },
		func() {
			if a := of("f(s(a),a)"); p.m.held[a] > 0 {
				p.drop(t, a)
			}
		},
		func() {
			if a := of("s(a)"); p.m.held[a] > 0 {
				p.drop(t, a)
			}
		},
		func() {
			if a := of("a"); p.m.held[a] > 0 {
				p.drop(t, a)
			}
		},
		func() { p.reclaim(t, 1) },
	}
}

// TestShortLives: everything that two terms, one of which is a part of the other, can go through in a few calls.
func TestShortLives(t *testing.T) {
	t.Parallel()
	life := make([]int, 5)
	for {
		p := begin(t, 64, 2)
		acts := shortActs(p, t)
		for _, i := range life {
			acts[i]()
			p.holdAll(t)
		}
		if !next(life, len(acts)) {
			break
		}
	}
}

// next counts a life on, as a number whose digits are below base; false behind the last one.
func next(life []int, base int) bool {
	for i := range life {
		life[i]++
		if life[i] < base {
			return true
		}
		life[i] = 0
	}
	return false
}

// TestSlices: what waits is released in slices as it is at one time: as many nodes are taken out, and the pages are the same then (P17.5).
func TestSlices(t *testing.T) {
	t.Parallel()
	for seed := range 12 {
		var outs []int
		var pages [][]string
		for _, slice := range []int{1 << 40, 1, 2, 3, 7, 64} {
			r := rand.New(rand.NewSource(int64(seed)))
			p := begin(t, 900, 3)
			draw := pools()[[]string{"many", "all", "few"}[seed%3]]
			for range 40 {
				p.keep(t, draw(r))
			}
			for range 30 {
				p.drop(t, p.some(r))
			}
			sum := 0
			for done := false; !done; {
				out := 0
				out, done = p.reclaim(t, slice)
				sum += out
			}
			p.holdAll(t)
			outs = append(outs, sum)
			var data []string
			for _, at := range p.s.Taken() {
				data = append(data, fmt.Sprint(at, pageOf(t, p.s, at)))
			}
			pages = append(pages, data)
		}
		for i := range outs {
			if outs[i] != outs[0] || outs[i] == 0 || !slices.Equal(pages[i], pages[0]) {
				t.Errorf("in slices %d nodes are taken out, else %d", outs[i], outs[0])
			}
		}
	}
}

// TestOneAddress: like terms have one address, others other ones, by whatever way they came (P17.5).
func TestOneAddress(t *testing.T) {
	t.Parallel()
	r := rand.New(rand.NewSource(1))
	p := begin(t, 1500, 9)
	there := map[string]api.Addr{}
	for _, draw := range pools() {
		for range 60 {
			s := draw(r)
			a := p.keep(t, s)
			if b, is := there[s]; is && a != b {
				t.Errorf("%s is at %x and at %x", s, a, b)
			}
			there[s] = a
		}
	}
	terms := map[api.Addr]string{}
	for s, a := range there {
		if other, is := terms[a]; is {
			t.Errorf("%s and %s are at %x", s, other, a)
		}
		terms[a] = s
		if x, e := p.r.Load(a); e != api.OK || text(x) != s {
			t.Errorf("at %x is %v, %v, want %s", a, x, e, s)
		}
	}
}

// TestTwoOfThem: several of one space, each asked through objects of its own every time, go on side by side.
func TestTwoOfThem(t *testing.T) {
	_, s := opened(t, 900, 3)
	type one struct {
		dir, list int
		held      map[string]api.Addr
	}
	var all []one
	for range 3 {
		dir, list, e := refs.New(s)
		want(t, e, api.OK)
		all = append(all, one{dir, list, map[string]api.Addr{}})
	}
	r := rand.New(rand.NewSource(2))
	for range 600 {
		x := all[r.Intn(3)]
		mine := refs.At(s, x.dir, x.list)
		text := drawn(r, 1+r.Intn(9), 5)
		if a, is := x.held[text]; is {
			want(t, mine.Drop(a), api.OK)
			delete(x.held, text)
			continue
		}
		a, e := mine.Keep(read(t, text))
		want(t, e, api.OK)
		x.held[text] = a
		_, _, e = mine.Reclaim(r.Intn(3))
		want(t, e, api.OK)
	}
	for _, x := range all {
		mine := refs.At(s, x.dir, x.list)
		for s, a := range x.held {
			if y, e := mine.Load(a); e != api.OK || text(y) != s {
				t.Errorf("%v, %v, want %s", y, e, s)
			}
			want(t, mine.Drop(a), api.OK)
		}
		_, done, e := mine.Reclaim(1 << 30)
		if l, _ := mine.Nodes().List(); !done || len(l) != 0 || e != api.OK {
			t.Errorf("left are %v, %v", l, e)
		}
	}
}

// TestOpenedAnew: what was committed is there in a space that is opened anew; what wasn't isn't.
func TestOpenedAnew(t *testing.T) {
	t.Parallel()
	r := rand.New(rand.NewSource(3))
	p := begin(t, 900, 4)
	draw := pools()["many"]
	for range 40 {
		for range 9 {
			p.step(t, r, draw, 40)
		}
		p.commit(t)
		k := p.m.kept()
		for range 5 {
			p.step(t, r, draw, 40)
		}
		p.m.undo(k)
		if r.Intn(2) == 0 {
			p.s.Undo()
		} else {
			p.open(t, 1+r.Intn(4))
		}
		p.holdAll(t)
	}
}

// open opens the space anew.
func (p *pair) open(t *testing.T, room int) {
	t.Helper()
	var e api.Errno
	p.s, e = space.Open(p.d, room)
	want(t, e, api.OK)
	p.r = refs.At(p.s, p.m.dir, p.m.list)
}

// TestSameAgain: the same calls make the same disk, block by block, whatever room there is (R5).
func TestSameAgain(t *testing.T) {
	t.Parallel()
	var images [][]string
	for _, room := range []int{5, 5, 1, 1024} {
		r := rand.New(rand.NewSource(4))
		p := begin(t, 900, room)
		for i := range 300 {
			p.step(t, r, pools()["many"], 40)
			if i%9 == 0 {
				p.commit(t)
			}
		}
		p.commit(t)
		images = append(images, p.d.Image())
	}
	for i := range images {
		if !slices.Equal(images[i], images[0]) {
			t.Error("the same calls have come to something else")
		}
	}
}

// TestManyTerms: a great disk is filled with terms, whose parts are all released again.
func TestManyTerms(t *testing.T) {
	t.Parallel()
	_, s := opened(t, 2048, 64)
	dir, list, e := refs.New(s)
	want(t, e, api.OK)
	r := refs.At(s, dir, list)
	var addrs []api.Addr
	for i := range 30 {
		a, e := r.Keep(read(t, wide(i)))
		want(t, e, api.OK)
		addrs = append(addrs, a)
	}
	for i, a := range addrs {
		x, e := r.Load(a)
		if e != api.OK || text(x) != wide(i) {
			t.Fatal(i, e)
		}
		want(t, r.Drop(a), api.OK)
	}
	out, done, e := r.Reclaim(1 << 40)
	if out != 30*64 || !done || e != api.OK {
		t.Errorf("Reclaim: %d, %v, %v", out, done, e)
	}
	if l, e := r.Nodes().List(); len(l) != 0 || e != api.OK {
		t.Errorf("left are %d nodes, %v", len(l), e)
	}
}
