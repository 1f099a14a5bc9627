package tree_test

import (
	"math"
	"slices"
	"strings"
	"testing"

	"aumbry/api"
	"aumbry/leaf"
	"aumbry/space"
	"aumbry/tree"
)

func check(t *testing.T, x *tree.Tree, key, value string, there bool) {
	t.Helper()
	if v, found, e := x.Get(key); v != value || found != there || e != api.OK {
		t.Errorf("Get(%q) = %q, %v, %v, want %q, %v", key, v, found, e, value, there)
	}
}

func checkList(t *testing.T, x *tree.Tree, from string, n int, want ...api.Entry) {
	t.Helper()
	if l, e := x.List(from, n); e != api.OK || !slices.Equal(l, want) {
		t.Errorf("List(%q, %d) = %q, %v, want %q", from, n, l, e, want)
	}
}

// TestExamples: those of the chapter.
func TestExamples(t *testing.T) {
	_, s := opened(t, 64, 2)
	root, x := planted(t, s)
	want(t, x.Put("b", "1"), api.OK)
	want(t, x.Put("a", "2"), api.OK)
	checkList(t, x, "", 9, api.Entry{Key: "a", Value: "2"}, api.Entry{Key: "b", Value: "1"})
	for _, there := range []bool{true, false} {
		if found, e := x.Delete("a"); found != there || e != api.OK {
			t.Errorf("Delete(a) = %v, %v", found, e)
		}
	}
	if l, e := x.Pages(); e != api.OK || !slices.Equal(l, []int{root}) {
		t.Errorf("Pages: %v, %v", l, e)
	}
}

// TestNew: the new page is a leaf without entries, the free one with the least number.
func TestNew(t *testing.T) {
	_, s := opened(t, 64, 2)
	for at := 35; at < 64; at++ {
		root, e := tree.New(s)
		if root != at || e != api.OK {
			t.Fatalf("New: %d, %v, want %d", root, e, at)
		}
		data, e := s.Get(root)
		if empty, _ := leaf.Pack(leaf.Leaf, nil); e != api.OK || data != empty {
			t.Errorf("the root is %.3q, %v", data, e)
		}
		x := tree.At(s, root)
		checkList(t, x, "", 9)
		check(t, x, "a", "", false)
		if found, e := x.Delete("a"); found || e != api.OK {
			t.Errorf("Delete: %v, %v", found, e)
		}
	}
	taken := s.Taken()
	if root, e := tree.New(s); root != 0 || e != api.ErrFull || !slices.Equal(s.Taken(), taken) {
		t.Errorf("New on a full disk: %d, %v", root, e)
	}
}

// TestNil: a nil space has no tree, and a nil tree answers ErrNil, whatever else is wrong, and nothing beside it (R2).
func TestNil(t *testing.T) {
	if root, e := tree.New(nil); root != 0 || e != api.ErrNil {
		t.Errorf("New: %d, %v", root, e)
	}
	for _, root := range []int{0, 35, -1, math.MaxInt} {
		if tree.At(nil, root) != nil {
			t.Error("a tree of a nil space")
		}
	}
	for _, x := range []*tree.Tree{nil, tree.At(nil, 35)} {
		for _, key := range []string{"", "a", strings.Repeat("a", 33)} {
			if v, found, e := x.Get(key); v != "" || found || e != api.ErrNil {
				t.Errorf("Get: %q, %v, %v", v, found, e)
			}
			want(t, x.Put(key, strings.Repeat("v", 65)), api.ErrNil)
			if found, e := x.Delete(key); found || e != api.ErrNil {
				t.Errorf("Delete: %v, %v", found, e)
			}
			for _, n := range []int{-1, 0, 1} {
				if l, e := x.List(key, n); len(l) != 0 || e != api.ErrNil {
					t.Errorf("List: %q, %v", l, e)
				}
			}
		}
		if l, e := x.Pages(); len(l) != 0 || e != api.ErrNil {
			t.Errorf("Pages: %v, %v", l, e)
		}
	}
}

// TestPutRefuses: an empty key ahead of what is too long; nothing has changed.
func TestPutRefuses(t *testing.T) {
	key, value := strings.Repeat("k", 32), strings.Repeat("v", 64)
	for _, c := range []struct {
		key, value string
		want       api.Errno
	}{
		{"", "", api.ErrRange},
		{"", "v", api.ErrRange},
		{"", value, api.ErrRange},
		{"", value + "v", api.ErrRange},
		{"", strings.Repeat("v", 70000), api.ErrRange},
		{key + "k", "", api.ErrLong},
		{key + "k", value + "v", api.ErrLong},
		{key, value + "v", api.ErrLong},
		{"k", value + "v", api.ErrLong},
		{"k", strings.Repeat("v", 256), api.ErrLong},
		{strings.Repeat("k", 256), "", api.ErrLong},
		{strings.Repeat("k", 70000), strings.Repeat("v", 70000), api.ErrLong},
		{key, value, api.OK},
		{"k", value, api.OK},
		{key, "", api.OK},
		{"k", "", api.OK},
		{"\x00", "\x00", api.OK},
	} {
		d, s := opened(t, 64, 2)
		root, x := planted(t, s)
		want(t, x.Put("k", "as it was"), api.OK)
		want(t, s.Commit(), api.OK)
		before, _ := s.Get(root)
		writes := len(d.Log())
		if e := x.Put(c.key, c.value); e != c.want {
			t.Errorf("Put(%d bytes, %d bytes) = %v, want %v", len(c.key), len(c.value), e, c.want)
		}
		if c.want == api.OK {
			check(t, x, c.key, c.value, true)
			continue
		}
		after, _ := s.Get(root)
		want(t, s.Commit(), api.OK)
		if after != before || len(d.Log()) != writes {
			t.Errorf("Put(%d bytes, %d bytes): something has changed", len(c.key), len(c.value))
		}
	}
}

// TestOddKeys: keys that no Put takes are never there, and are no error elsewhere.
func TestOddKeys(t *testing.T) {
	_, s := opened(t, 200, 2)
	_, x := planted(t, s)
	long := strings.Repeat("m", 32)
	for range 2 {
		for _, key := range []string{"", long + "m", strings.Repeat("m", 70000)} {
			check(t, x, key, "", false)
			if found, e := x.Delete(key); found || e != api.OK {
				t.Errorf("Delete of %d bytes: %v, %v", len(key), found, e)
			}
		}
		for i := range 30 {
			want(t, x.Put(string([]byte{byte('a' + i%26), byte(i)}), strings.Repeat("v", 60)), api.OK)
		}
		want(t, x.Put(long, "1"), api.OK)
		want(t, x.Put("n", "2"), api.OK)
	}
	checkList(t, x, long, 1, api.Entry{Key: long, Value: "1"})
	checkList(t, x, long+"\x00", 1, api.Entry{Key: "n", Value: "2"})
	checkList(t, x, long+strings.Repeat("m", 70000), 1, api.Entry{Key: "n", Value: "2"})
	checkList(t, x, strings.Repeat("\xff", 40), 1)
}

// TestBytes: keys are in order byte by byte, whatever their bytes, and values may be any.
func TestBytes(t *testing.T) {
	_, s := opened(t, 400, 2)
	_, x := planted(t, s)
	var l []api.Entry
	for i := range 256 {
		for _, k := range []string{string([]byte{byte(i)}), string([]byte{byte(i), 0}), string([]byte{byte(i), 255})} {
			l = append(l, api.Entry{Key: k, Value: strings.Repeat(k, i%9)})
		}
	}
	for i := range l {
		y := l[i*35%len(l)]
		want(t, x.Put(y.Key, y.Value), api.OK)
	}
	for i := range l {
		if i*35%len(l) == 0 && i > 0 {
			t.Fatal("the order in which entries are put passes some over")
		}
		check(t, x, l[i].Key, l[i].Value, true)
	}
	checkList(t, x, "", 9999, l...)
}

// TestPutAgain: a key has the last value, however long it was ahead, also where all of them grow and shrink.
func TestPutAgain(t *testing.T) {
	p := begin(t, 300, 3)
	for _, n := range []int{0, 64, 1, 63, 30, 64, 0} {
		for i := range 40 {
			p.put(t, string([]byte{'k', byte(i)}), strings.Repeat("v", n))
			p.hold(t)
		}
		for i := range 41 {
			p.ask(t, string([]byte{'k', byte(i)}), 2)
		}
	}
}

// TestList: from every place, and of every length.
func TestList(t *testing.T) {
	p := begin(t, 300, 3)
	for i := range 60 {
		p.put(t, string([]byte{byte(2 * i)}), strings.Repeat("v", i%65))
		p.hold(t)
	}
	for i := range 122 {
		for _, n := range []int{math.MinInt, -1, 0, 1, 2, 5, 59, 60, 61, math.MaxInt} {
			for _, from := range []string{string([]byte{byte(i)}), string([]byte{byte(i), 0})} {
				l, e := p.x.List(from, n)
				if e != api.OK || !slices.Equal(l, p.listOf(from, n)) {
					t.Fatalf("List(%q, %d) = %q, %v", from, n, l, e)
				}
			}
		}
	}
	checkList(t, p.x, "", 0)
	checkList(t, p.x, "", -1)
	checkList(t, p.x, "", math.MinInt)
}

// TestDeleteNothing: where there is no such key nothing changes, and nothing is written.
func TestDeleteNothing(t *testing.T) {
	d, s := opened(t, 200, 3)
	_, x := planted(t, s)
	for i := range 50 {
		want(t, x.Put(string([]byte{byte(2 * i), 'k'}), strings.Repeat("v", 30)), api.OK)
	}
	want(t, s.Commit(), api.OK)
	writes := len(d.Log())
	for i := range 102 {
		for _, key := range []string{string([]byte{byte(i)}), string([]byte{byte(i), 'k', 0}), string([]byte{byte(i), 'l'})} {
			if found, e := x.Delete(key); found || e != api.OK {
				t.Errorf("Delete(%q): %v, %v", key, found, e)
			}
		}
	}
	want(t, s.Commit(), api.OK)
	if len(d.Log()) != writes {
		t.Error("something was written")
	}
}

// TestLooks: calls that only look change nothing.
func TestLooks(t *testing.T) {
	d, s := opened(t, 200, 3)
	_, x := planted(t, s)
	for i := range 50 {
		want(t, x.Put(string([]byte{byte(2 * i), 'k'}), strings.Repeat("v", 30)), api.OK)
	}
	want(t, s.Commit(), api.OK)
	writes := len(d.Log())
	for i := range 102 {
		_, _, e := x.Get(string([]byte{byte(i), 'k'}))
		want(t, e, api.OK)
		_, e = x.List(string([]byte{byte(i)}), i)
		want(t, e, api.OK)
		_, e = x.Pages()
		want(t, e, api.OK)
	}
	want(t, s.Commit(), api.OK)
	if len(d.Log()) != writes {
		t.Error("something was written")
	}
}

// TestSpaceErrors: an error of the space is answered as it is met, and nothing beside it (R2).
func TestSpaceErrors(t *testing.T) {
	_, s := opened(t, 64, 2)
	for root, errno := range map[int]api.Errno{-1: api.ErrRange, 0: api.ErrRange, 34: api.ErrRange, 64: api.ErrRange, math.MaxInt: api.ErrRange, 35: api.ErrNone, 63: api.ErrNone} {
		failing(t, tree.At(s, root), errno)
	}
}

// failing: all calls answer this error.
func failing(t *testing.T, x *tree.Tree, errno api.Errno) {
	t.Helper()
	if v, found, e := x.Get("a"); v != "" || found || e != errno {
		t.Errorf("Get: %q, %v, %v, want %v", v, found, e, errno)
	}
	if e := x.Put("a", "v"); e != errno {
		t.Errorf("Put: %v, want %v", e, errno)
	}
	if found, e := x.Delete("a"); found || e != errno {
		t.Errorf("Delete: %v, %v, want %v", found, e, errno)
	}
	if l, e := x.List("", 9); len(l) != 0 || e != errno {
		t.Errorf("List: %q, %v, want %v", l, e, errno)
	}
	if l, e := x.Pages(); len(l) != 0 || e != errno {
		t.Errorf("Pages: %v, %v, want %v", l, e, errno)
	}
}

// TestOtherPages: of a page that is no tree's root nothing is promised but what costs nothing: that its calls end, and don't panic.
func TestOtherPages(t *testing.T) {
	for _, c := range []struct {
		kind int
		list []api.Entry
	}{
		{leaf.Branch, nil},
		{leaf.Branch, []api.Entry{{Key: "", Value: ""}}},
		{leaf.Branch, []api.Entry{{Key: "", Value: "\x00"}}},
		{leaf.Branch, []api.Entry{{Key: "", Value: "\x00\x00"}}},
		{leaf.Branch, []api.Entry{{Key: "", Value: "\xff\xff"}}},
	} {
		_, s := opened(t, 64, 2)
		root, x := planted(t, s)
		page, e := leaf.Pack(c.kind, c.list)
		want(t, e, api.OK)
		want(t, s.Put(root, page), api.OK)
		all(x)
	}
	_, s := opened(t, 64, 2)
	root, x := planted(t, s)
	want(t, s.Put(root, strings.Repeat("\x00", 256)), api.OK)
	failing(t, x, api.ErrForm)
}

func all(x *tree.Tree) {
	x.Get("a")
	x.List("", 9)
	x.Pages()
	x.Put("a", "v")
	x.Delete("a")
}

// TestSpaceOfNothing: of a space that is opened on a nil disk there is none.
func TestSpaceOfNothing(t *testing.T) {
	s, e := space.Open(nil, 1)
	want(t, e, api.ErrNil)
	if tree.At(s, 35) != nil {
		t.Error("a tree")
	}
}
