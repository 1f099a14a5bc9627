package nodes_test

import (
	"fmt"
	"math/rand"
	"slices"
	"testing"

	"aumbry/api"
	"aumbry/nodes"
	"aumbry/space"
)

// live goes through so many acts over these contents; of 100 of them so many are Removes in a while of growing and in one of shrinking.
func (p *pair) live(t *testing.T, r *rand.Rand, contents []content, acts, grow, shrink int) {
	t.Helper()
	share := grow
	for i := range acts {
		if i%100 == 0 {
			share = []int{grow, shrink}[i/100%2]
		}
		c := contents[r.Intn(len(contents))]
		switch n := r.Intn(100); {
		case n < share:
			p.remove(t, p.some(r))
		case n < share+10:
			p.set(t, p.drawnSet(r))
		default:
			p.add(t, c)
		}
		p.hold(t)
		p.ask(t, contents[r.Intn(len(contents))], p.some(r))
	}
}

// empty removes all that is there, from one end, from the other, or as it comes: buckets stay, each with its first page.
func (p *pair) empty(t *testing.T, r *rand.Rand) {
	t.Helper()
	way := r.Intn(3)
	for l := p.m.all(); len(l) > 0; {
		i := []int{0, len(l) - 1, r.Intn(len(l))}[way]
		p.remove(t, l[i].At)
		l = slices.Delete(l, i, i+1)
		p.hold(t)
	}
	if l := p.s.Taken(); len(l) != 1+len(p.m.buckets) || len(l) > 33 {
		t.Fatalf("of the empty file %d pages are left", len(l))
	}
}

// TestLives: drawn ones, held against the model, page by page, behind each act (P16.1 to P16.6).
func TestLives(t *testing.T) {
	draws := []func(r *rand.Rand) []content{
		func(r *rand.Rand) []content { return spread(r, 12) },
		func(r *rand.Rand) []content { return spread(r, 300) },
		func(r *rand.Rand) []content { return narrow("10110", 40) },
		func(r *rand.Rand) []content { return narrow("0000", 60) },
		func(r *rand.Rand) []content { return append(narrow("111", 40), narrow("0", 6)...) },
		func(r *rand.Rand) []content { return twins()[:25] },
		func(r *rand.Rand) []content { return slices.Concat(twins()[:9], narrow("01", 9), spread(r, 20)) },
	}
	for i, draw := range draws {
		for j, shares := range [][2]int{{0, 80}, {20, 60}, {40, 40}, {5, 50}} {
			t.Run(fmt.Sprint(i, j), func(t *testing.T) {
				t.Parallel()
				r := rand.New(rand.NewSource(int64(10*i + j)))
				p := begin(t, 600, 1+r.Intn(6))
				contents := draw(r)
				p.live(t, r, contents, 500, shares[0], shares[1])
				p.empty(t, r)
				p.live(t, r, contents, 200, shares[0], shares[1])
				p.empty(t, r)
			})
		}
	}
}

// TestShortLives: everything that a bucket of three pages can go through in a few calls, whose pages have one node each, or are full.
func TestShortLives(t *testing.T) {
	t.Parallel()
	l := narrow("01011", 17)
	for _, kept := range [][]int{{0, 5, 10}, {0, 1, 2, 3, 4, 5, 10}, {0, 5, 6, 7, 8, 9, 10}, {5, 10}, {0, 10, 11, 12, 13, 14}, {10}} {
		act := make([]int, 3)
		for {
			p := begin(t, 64, 2)
			for _, c := range l[:15] {
				p.add(t, c)
			}
			for i, c := range l[:15] {
				if !slices.Contains(kept, i) {
					a, _ := p.m.find(c)
					p.remove(t, a)
				}
			}
			p.hold(t)
			for _, i := range act {
				c := l[[]int{0, 5, 10, 15, 16}[i/2]]
				if i%2 == 0 {
					p.add(t, c)
				} else {
					a, _ := p.m.find(c)
					p.remove(t, a)
				}
				p.hold(t)
			}
			if !next(act, 10) {
				break
			}
		}
	}
}

// next counts a life on, as a number whose digits are below base; false behind the last one.
func next(life []int, base int) bool {
	for i := range life {
		life[i]++
		if life[i] < base {
			return true
		}
		life[i] = 0
	}
	return false
}

// TestTwoFiles: several files of one space, each asked through objects of its own every time, go on side by side.
func TestTwoFiles(t *testing.T) {
	r := rand.New(rand.NewSource(2))
	d, s := opened(t, 900, 3)
	own := roomOf(900)
	var files []*pair
	for range 3 {
		files = append(files, beginIn(t, d, s, own))
	}
	contents := spread(r, 150)
	for range 1500 {
		p := files[r.Intn(3)]
		p.n = nodes.At(s, p.m.dir)
		if r.Intn(5) > 1 {
			p.add(t, contents[r.Intn(len(contents))])
		} else {
			p.remove(t, p.some(r))
		}
	}
	for _, p := range files {
		p.holdPages(t)
		if l, e := p.n.List(); !allSame(l, p.m.all()) || e != api.OK {
			t.Errorf("a file has other nodes: %v", e)
		}
	}
}

// TestOpenedAnew: what was committed is there in a space that is opened anew, behind the same directory; what wasn't isn't.
func TestOpenedAnew(t *testing.T) {
	r := rand.New(rand.NewSource(3))
	p := begin(t, 900, 4)
	contents := slices.Concat(spread(r, 250), twins()[:9])
	for range 25 {
		for range 30 {
			if r.Intn(4) > 0 {
				p.add(t, contents[r.Intn(len(contents))])
			} else {
				p.remove(t, p.some(r))
			}
			p.set(t, p.drawnSet(r))
		}
		want(t, p.s.Commit(), api.OK)
		kept := p.m.clone()
		for range 40 {
			p.add(t, contents[r.Intn(len(contents))])
			p.remove(t, p.some(r))
		}
		p.m = kept
		if r.Intn(2) == 0 {
			p.s.Undo()
		} else {
			var e api.Errno
			p.s, e = space.Open(p.d, 1+r.Intn(4))
			want(t, e, api.OK)
			p.n = nodes.At(p.s, p.m.dir)
		}
		p.hold(t)
	}
}

// TestSameAgain: the same calls make the same disk, block by block, whatever room there is (R5).
func TestSameAgain(t *testing.T) {
	var images [][]string
	for _, room := range []int{5, 5, 1, 1024} {
		r := rand.New(rand.NewSource(4))
		p := begin(t, 700, room)
		contents := slices.Concat(spread(r, 250), twins()[:9])
		for range 900 {
			switch r.Intn(3) {
			case 0:
				p.remove(t, p.some(r))
			case 1:
				p.set(t, p.drawnSet(r))
			}
			p.add(t, contents[r.Intn(len(contents))])
			if r.Intn(9) == 0 {
				want(t, p.s.Commit(), api.OK)
			}
		}
		want(t, p.s.Commit(), api.OK)
		images = append(images, p.d.Image())
	}
	for i := range images {
		if !slices.Equal(images[i], images[0]) {
			t.Error("the same calls have come to something else")
		}
	}
}

// TestGreatFile: nodes on all pages of the greatest disk, till it is full; each is found again.
func TestGreatFile(t *testing.T) {
	t.Parallel()
	r := rand.New(rand.NewSource(5))
	_, s := opened(t, 2048, 64)
	dir, e := nodes.New(s)
	want(t, e, api.OK)
	n := nodes.At(s, dir)
	contents := spread(r, 9000)
	there := map[int]api.Addr{}
	for i := 0; s.Free() > 0; i++ {
		a, added, e := n.Add(contents[i].name, contents[i].kids)
		if !added || e != api.OK {
			t.Fatal(i, a, added, e)
		}
		there[i] = a
	}
	if len(there) < 4500 {
		t.Errorf("%d nodes only fit on the disk", len(there))
	}
	for i, a := range there {
		if i%10 > 0 {
			continue
		}
		b, found, e := n.Find(contents[i].name, contents[i].kids)
		if b != a || !found || e != api.OK {
			t.Fatal(i, b, found, e)
		}
		x, found, e := n.Get(a)
		if !same(x, api.Node{At: a, Name: contents[i].name, Kids: contents[i].kids}) || !found || e != api.OK {
			t.Fatal(i, x, found, e)
		}
	}
	l, e := n.List()
	if len(l) != len(there) || e != api.OK || !slices.IsSortedFunc(l, func(x, y api.Node) int { return int(x.At) - int(y.At) }) {
		t.Errorf("%d nodes are told, %v", len(l), e)
	}
}
