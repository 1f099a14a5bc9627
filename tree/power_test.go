package tree_test

import (
	"math/rand"
	"slices"
	"strings"
	"testing"

	"aumbry/api"
	"aumbry/space"
	"aumbry/tree"
)

// TestPowerOff: a call that meets ErrDown answers nothing beside it, and has changed nothing; one that doesn't meet it has done all (R2, R6). With room for many pages the tree is held, with little nearly nothing is.
func TestPowerOff(t *testing.T) {
	r := rand.New(rand.NewSource(7))
	met := map[string]int{}
	for _, room := range []int{1, 2, 5, 300} {
		p := begin(t, 600, room)
		for range 150 {
			p.put(t, keys[3](r), strings.Repeat("v", r.Intn(65)))
		}
		for range 1500 {
			warm(p, r)
			off(p.d)
			p.try(t, r, met)
			p.d.Restore()
			if r.Intn(20) == 0 {
				now := look(t, p.s, p.root)
				if !slices.Equal(now.entries, p.sorted()) || !slices.Equal(now.numbers(), p.s.Taken()) {
					t.Fatal("with the power off something was done by half")
				}
			}
			if r.Intn(6) == 0 {
				want(t, p.s.Commit(), api.OK)
			}
		}
	}
	for _, call := range []string{"get", "put", "delete", "list", "pages"} {
		for _, how := range []string{" ok", " down"} {
			if met[call+how] < 20 {
				t.Errorf("%s%s was met %d times only", call, how, met[call+how])
			}
		}
	}
}

// warm reads some pages, which are held then.
func warm(p *pair, r *rand.Rand) {
	for range r.Intn(3) {
		p.x.Get(keys[3](r))
	}
	if r.Intn(4) == 0 {
		p.x.Pages()
	}
	if r.Intn(3) > 0 {
		p.s.Free()
	}
}

// try does one call with the power off, and to the model what it has done.
func (p *pair) try(t *testing.T, r *rand.Rand, met map[string]int) {
	t.Helper()
	key, value := keys[3](r), strings.Repeat("v", r.Intn(65))
	if l := p.listOf(key, 1); len(l) > 0 && r.Intn(3) > 0 {
		key = l[0].Key
	}
	v, there := p.m[key]
	call, e, right := "", api.OK, false
	switch r.Intn(5) {
	case 0:
		var got string
		var found bool
		call = "get"
		got, found, e = p.x.Get(key)
		right = got == v && found == there
		if e != api.OK {
			right = got == "" && !found
		}
	case 1:
		call, right = "put", true
		if e = p.x.Put(key, value); e == api.OK {
			p.m[key] = value
		}
	case 2:
		var found bool
		call = "delete"
		found, e = p.x.Delete(key)
		right = found == (there && e == api.OK)
		if e == api.OK {
			delete(p.m, key)
		}
	case 3:
		var l []api.Entry
		call = "list"
		l, e = p.x.List(key, 3)
		right = slices.Equal(l, p.listOf(key, 3))
		if e != api.OK {
			right = len(l) == 0
		}
	case 4:
		var l []int
		call = "pages"
		l, e = p.x.Pages()
		right = (len(l) > 0) == (e == api.OK)
	}
	if !right || e != api.OK && e != api.ErrDown {
		t.Fatalf("%s(%q): %v", call, key, e)
	}
	met[call+map[api.Errno]string{api.OK: " ok", api.ErrDown: " down"}[e]]++
}

// TestNewDown: New takes no page with the power off.
func TestNewDown(t *testing.T) {
	d, s := opened(t, 64, 1)
	_, _ = s.Head()
	off(d)
	root, e := tree.New(s)
	d.Restore()
	if root != 0 || e != api.ErrDown || len(s.Taken()) != 0 {
		t.Errorf("New: %d, %v, taken %v", root, e, s.Taken())
	}
}

// TestAllDown: of a tree none of whose pages is held every call that has to read answers ErrDown.
func TestAllDown(t *testing.T) {
	d, s := opened(t, 200, 1)
	root, x := planted(t, s)
	for i := range 50 {
		want(t, x.Put(string([]byte{'k', byte(i)}), strings.Repeat("v", 60)), api.OK)
	}
	want(t, s.Commit(), api.OK)
	s, e := space.Open(d, 1)
	want(t, e, api.OK)
	off(d)
	failing(t, tree.At(s, root), api.ErrDown)
	d.Restore()
	check(t, tree.At(s, root), "k\x07", strings.Repeat("v", 60), true)
}

// TestCut: wherever the power fails in a Commit, all of what was put and deleted since the last one is there in a space that is opened anew, or nothing of it.
func TestCut(t *testing.T) {
	r := rand.New(rand.NewSource(8))
	d, s := opened(t, 300, 3)
	root, x := planted(t, s)
	want(t, s.Commit(), api.OK)
	kept := pair{m: map[string]string{}}
	for range 300 {
		next := pair{m: map[string]string{}}
		for _, y := range kept.sorted() {
			next.m[y.Key] = y.Value
		}
		for range r.Intn(12) {
			k := keys[1](r)
			if r.Intn(5) > 1 {
				want(t, x.Put(k, strings.Repeat(k, 9)), api.OK)
				next.m[k] = strings.Repeat(k, 9)
			} else if l := next.listOf(k, 1); len(l) > 0 {
				_, e := x.Delete(l[0].Key)
				want(t, e, api.OK)
				delete(next.m, l[0].Key)
			}
		}
		d.Cut(r.Intn(40))
		e := s.Commit()
		d.Restore()
		var errno api.Errno
		s, errno = space.Open(d, 3)
		want(t, errno, api.OK)
		x = tree.At(s, root)
		now := look(t, s, root)
		if !slices.Equal(now.entries, next.sorted()) && (e == api.OK || !slices.Equal(now.entries, kept.sorted())) {
			t.Fatalf("behind a Commit that answered %v it is neither as ahead of it nor as behind", e)
		}
		if !slices.Equal(now.numbers(), s.Taken()) {
			t.Fatal("other pages are taken than the tree's")
		}
		kept.m = map[string]string{}
		for _, y := range now.entries {
			kept.m[y.Key] = y.Value
		}
	}
}
