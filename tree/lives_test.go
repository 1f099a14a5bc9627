package tree_test

import (
	"fmt"
	"math/rand"
	"slices"
	"strings"
	"testing"

	"aumbry/api"
	"aumbry/space"
	"aumbry/tree"
)

// life is how a drawn life goes: by the keys that it draws and how long its values are, how often it deletes in a while of growing and in one of shrinking.
type life struct {
	key          func(r *rand.Rand) string
	value        func(r *rand.Rand) string
	grow, shrink int // of 100 acts how many are Deletes
}

func (l life) run(t *testing.T, r *rand.Rand, p *pair, acts, most int) {
	t.Helper()
	growing := true
	for range acts {
		if len(p.m) == 0 {
			growing = true
		}
		if len(p.m) > most {
			growing = false
		}
		share := l.shrink
		if growing {
			share = l.grow
		}
		key := l.key(r)
		if r.Intn(100) >= share {
			p.put(t, key, l.value(r))
		} else {
			// Most keys that are drawn aren't there any more when the tree has shrunk.
			if x := p.listOf(key, 1); len(x) > 0 && r.Intn(8) > 0 {
				key = x[0].Key
			}
			p.take(t, key)
		}
		p.hold(t)
		p.ask(t, l.key(r), r.Intn(9)-1)
	}
	p.empty(t, r)
}

// empty deletes all that is there, from one end, from the other, or as it comes: the root alone is left.
func (p *pair) empty(t *testing.T, r *rand.Rand) {
	t.Helper()
	way := r.Intn(3)
	for l := p.sorted(); len(l) > 0; {
		i := []int{0, len(l) - 1, r.Intn(len(l))}[way]
		p.take(t, l[i].Key)
		l = slices.Delete(l, i, i+1)
		p.hold(t)
	}
	if l := p.s.Taken(); len(l) != 1 || l[0] != p.root {
		t.Fatalf("of the empty tree the pages %v are left, want %d", l, p.root)
	}
}

// TestLongLives: drawn ones, held against the model behind each act (P14.1 to P14.4).
func TestLongLives(t *testing.T) {
	values := []func(r *rand.Rand) string{
		func(r *rand.Rand) string { return "" },
		func(r *rand.Rand) string { return strings.Repeat("v", 64) },
		func(r *rand.Rand) string { return strings.Repeat(string([]byte{byte(r.Intn(256))}), r.Intn(65)) },
	}
	for i, key := range keys {
		for j, value := range values {
			t.Run(fmt.Sprint(i, j), func(t *testing.T) {
				t.Parallel()
				r := rand.New(rand.NewSource(int64(10*i + j)))
				p := begin(t, 900, 1+r.Intn(6))
				life{key, value, r.Intn(40), 60 + r.Intn(41)}.run(t, r, p, 200, 60+r.Intn(100))
				life{key, value, r.Intn(30), 100}.run(t, r, p, 300, 180)
			})
		}
	}
}

// TestShortLives: everything that a tree can go through in a few calls, whose entries are so long that three of them fill a page.
func TestShortLives(t *testing.T) {
	t.Parallel()
	names := []string{"a", "b", "c", "d"}
	for _, first := range [][]string{nil, {"a", "b", "c"}, {"a", "b", "c", "d", "e", "f"}} {
		act := make([]int, 3)
		for {
			p := begin(t, 64, 2)
			for _, k := range first {
				p.put(t, k, strings.Repeat(k, 64))
				p.hold(t)
			}
			for _, i := range act {
				k := names[i%len(names)]
				switch i / len(names) {
				case 0:
					p.put(t, k, strings.Repeat("x", 64))
				case 1:
					p.put(t, k, "")
				case 2:
					p.take(t, k)
				}
				p.hold(t)
				for _, k := range []string{"", "a", "aa", "d", "g"} {
					p.ask(t, k, 2)
				}
			}
			if !next(act, 3*len(names)) {
				break
			}
		}
	}
}

// next counts a life on, as a number whose digits are below base; false behind the last one.
func next(life []int, base int) bool {
	for i := range life {
		life[i]++
		if life[i] < base {
			return true
		}
		life[i] = 0
	}
	return false
}

// TestTwoTrees: several trees of one space, each asked through objects of its own every time, go on side by side.
func TestTwoTrees(t *testing.T) {
	r := rand.New(rand.NewSource(2))
	_, s := opened(t, 600, 3)
	var roots []int
	models := make([]map[string]string, 3)
	for i := range models {
		root, _ := planted(t, s)
		roots = append(roots, root)
		models[i] = map[string]string{}
	}
	for range 2000 {
		i := r.Intn(3)
		x, k := tree.At(s, roots[i]), keys[i](r)
		if r.Intn(5) > 1 {
			want(t, x.Put(k, "v"+k[:1]), api.OK)
			models[i][k] = "v" + k[:1]
		} else {
			found, e := x.Delete(k)
			if _, there := models[i][k]; e != api.OK || found != there {
				t.Fatal(found, e)
			}
			delete(models[i], k)
		}
	}
	var all []int
	for i, root := range roots {
		p := pair{m: models[i]}
		if now := look(t, s, root); !slices.Equal(now.entries, p.sorted()) {
			t.Errorf("tree %d has other entries", i)
		}
		l, e := tree.At(s, root).Pages()
		want(t, e, api.OK)
		all = append(all, l...)
	}
	slices.Sort(all)
	if !slices.Equal(all, s.Taken()) {
		t.Error("the pages of all trees aren't those that are taken")
	}
}

// TestOpenedAnew: what was committed is there in a space that is opened anew, below the same root; what wasn't isn't.
func TestOpenedAnew(t *testing.T) {
	r := rand.New(rand.NewSource(3))
	d, s := opened(t, 600, 4)
	root, x := planted(t, s)
	p := pair{m: map[string]string{}}
	for range 20 {
		for range 25 {
			k := keys[0](r)
			want(t, x.Put(k, k+k), api.OK)
			p.m[k] = k + k
		}
		want(t, s.Commit(), api.OK)
		for _, e := range p.sorted()[:len(p.m)/2] {
			if found, e := x.Delete(e.Key); !found || e != api.OK {
				t.Fatal(found, e)
			}
		}
		if r.Intn(2) == 0 {
			s.Undo()
		} else {
			var e api.Errno
			s, e = space.Open(d, 1+r.Intn(4))
			want(t, e, api.OK)
			x = tree.At(s, root)
		}
		if now := look(t, s, root); !slices.Equal(now.entries, p.sorted()) || !slices.Equal(now.numbers(), s.Taken()) {
			t.Fatal("it isn't as it was committed")
		}
	}
}

// TestSameAgain: the same calls make the same disk, block by block, whatever room there is (R5).
func TestSameAgain(t *testing.T) {
	var images [][]string
	for _, room := range []int{5, 5, 1, 1024} {
		r := rand.New(rand.NewSource(4))
		d, s := opened(t, 700, room)
		_, x := planted(t, s)
		for i := range 900 {
			k := keys[i%4](r)
			if r.Intn(3) == 0 {
				l, e := x.List(k, 1)
				want(t, e, api.OK)
				if len(l) > 0 {
					_, e := x.Delete(l[0].Key)
					want(t, e, api.OK)
				}
				continue
			}
			want(t, x.Put(k, strings.Repeat("v", r.Intn(65))), api.OK)
			if r.Intn(9) == 0 {
				want(t, s.Commit(), api.OK)
			}
		}
		want(t, s.Commit(), api.OK)
		images = append(images, d.Image())
	}
	for i := range images {
		if !slices.Equal(images[i], images[0]) {
			t.Error("the same calls have come to something else")
		}
	}
}

// TestRanges: whole ranges of keys go, and others come in their places, so that branches lose their first pages, and keys come where those were.
func TestRanges(t *testing.T) {
	for seed := range int64(6) {
		t.Run(fmt.Sprint(seed), func(t *testing.T) {
			t.Parallel()
			r := rand.New(rand.NewSource(seed))
			key := func(i int) string { return fmt.Sprintf("%04d%s", i, strings.Repeat("z", 28)) }
			if seed%3 > 0 {
				key = func(i int) string { return fmt.Sprintf("%04d%s", i, strings.Repeat("z", i*int(seed)*13%29)) }
			}
			p := begin(t, 1200, 8)
			for i := range 400 {
				p.put(t, key(i*7919%400), strings.Repeat("v", 50))
			}
			p.hold(t)
			for range 10 {
				p.changeRange(t, r, key)
			}
			p.empty(t, r)
		})
	}
}

// changeRange deletes a range of keys, from one of its ends on, and puts some at its beginning.
func (p *pair) changeRange(t *testing.T, r *rand.Rand, key func(i int) string) {
	t.Helper()
	from, n := r.Intn(400), 1+r.Intn(150)
	up := r.Intn(2) == 0
	for i := range n {
		j := from + n - 1 - i
		if up {
			j = from + i
		}
		p.take(t, key(j%400))
		p.hold(t)
	}
	for i := range r.Intn(n) {
		p.put(t, key((from+i)%400), strings.Repeat("v", r.Intn(65)))
	}
	p.hold(t)
	p.ask(t, key(from), 5)
}
