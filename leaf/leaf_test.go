package leaf_test

import (
	"math"
	"strings"
	"testing"

	"aumbry/api"
	"aumbry/leaf"
)

// entries are those of these keys and values, one after the other.
func entries(texts ...string) []api.Entry {
	var l []api.Entry
	for i := 0; i < len(texts); i += 2 {
		l = append(l, api.Entry{Key: texts[i], Value: texts[i+1]})
	}
	return l
}

func times(s string, n int) string { return strings.Repeat(s, n) }

// page is s with bytes 0 behind it.
func page(s string) string { return s + times("\x00", 256-len(s)) }

// full is a list that just fits: its size is 2, 2 times 98, and 58.
func full() []api.Entry {
	return entries(times("a", 32), times("x", 64), times("b", 32), times("y", 64), "c", times("z", 55))
}

// many is a list that just fits, with as many entries as can be: an empty key, and keys of a byte.
func many() []api.Entry {
	l := entries("", "")
	for i := range 84 {
		l = append(l, api.Entry{Key: string([]byte{byte(i)})})
	}
	return l
}

func TestSize(t *testing.T) {
	for _, c := range []struct {
		l    []api.Entry
		want int
	}{
		{nil, 2},
		{[]api.Entry{}, 2},
		{entries("", ""), 4},
		{entries("a", "x"), 6},
		{entries("a", "", "", "xy"), 9},
		{full(), 256},
		{many(), 256},
		{entries("é", "\x00\x00"), 8},
		{entries(times("k", 1000), times("v", 2000), "b", "", "a", ""), 3010},
	} {
		if n := leaf.Size(c.l); n != c.want {
			t.Errorf("Size(%q) = %d, want %d", c.l, n, c.want)
		}
	}
}

func TestPack(t *testing.T) {
	long, longValue := times("k", 33), times("v", 65)
	for _, c := range []struct {
		what string
		kind int
		l    []api.Entry
		want string
		e    api.Errno
	}{
		{"a = x", 1, entries("a", "x"), page("\x01\x01\x01a\x01x"), api.OK},
		{"a branch", 2, entries("a", "x"), page("\x02\x01\x01a\x01x"), api.OK},
		{"nothing", 1, nil, page("\x01"), api.OK},
		{"no entries", 2, []api.Entry{}, page("\x02"), api.OK},
		{"an empty entry", 1, entries("", ""), page("\x01\x01"), api.OK},
		{"an empty key first", 1, entries("", "x", "\x00", ""), page("\x01\x02\x00\x01x\x01\x00\x00"), api.OK},
		{"a key that begins another", 1, entries("a", "", "a\x00", "", "ab", "x"), page("\x01\x03\x01a\x00\x02a\x00\x00\x02ab\x01x"), api.OK},
		{"bytes from 128 on are above", 1, entries("z", "", "\x80", ""), page("\x01\x02\x01z\x00\x01\x80\x00"), api.OK},
		{"no runes", 1, entries("\uffff", "", "\xf0", ""), page("\x01\x02\x03\xef\xbf\xbf\x00\x01\xf0\x00"), api.OK},
		{"the longest", 2, entries(times("k", 32), times("v", 64)), page("\x02\x01\x20" + times("k", 32) + "\x40" + times("v", 64)), api.OK},
		{"kind 0", 0, nil, "", api.ErrRange},
		{"kind 3", 3, entries("a", "x"), "", api.ErrRange},
		{"kind -1", -1, nil, "", api.ErrRange},
		{"kind 257", 257, nil, "", api.ErrRange},
		{"a kind far below", math.MinInt, nil, "", api.ErrRange},
		{"a kind far above", math.MaxInt, nil, "", api.ErrRange},
		{"a long key", 1, entries(long, ""), "", api.ErrLong},
		{"a long value", 1, entries("a", longValue), "", api.ErrLong},
		{"the last is long", 1, entries("a", "", "b", longValue), "", api.ErrLong},
		{"a key twice", 1, entries("a", "", "a", "x"), "", api.ErrOrder},
		{"an empty key twice", 1, entries("", "", "", ""), "", api.ErrOrder},
		{"falling", 1, entries("b", "", "a", ""), "", api.ErrOrder},
		{"one behind it that begins it", 1, entries("ab", "", "a", ""), "", api.ErrOrder},
		{"an empty key last", 1, entries("a", "", "", ""), "", api.ErrOrder},
		{"the last two", 1, entries("a", "", "c", "", "b", ""), "", api.ErrOrder},
		{"above the one two ahead", 1, entries("a", "", "c", "", "b", "", "d", ""), "", api.ErrOrder},
		{"one byte too many", 1, append(full()[:2:2], entries("c", times("z", 56))...), "", api.ErrFull},
		{"one entry too many", 1, append(many(), entries("\xff", "")...), "", api.ErrFull},
		{"300 entries", 2, hundreds(), "", api.ErrFull},

		{"a kind ahead of all", 0, entries(long, "", "a", ""), "", api.ErrRange},
		{"a kind ahead of the room", 3, hundreds(), "", api.ErrRange},
		{"of one entry its length first", 1, entries("z", "", long, ""), "", api.ErrLong},
		{"of one entry its value's length first", 1, entries("z", "", "a", longValue), "", api.ErrLong},
		{"entry by entry, order", 1, entries("b", "", "a", "", long, ""), "", api.ErrOrder},
		{"entry by entry, length", 1, entries("b", longValue, "a", ""), "", api.ErrLong},
		{"length ahead of room", 1, append(hundreds(), entries("\xff", longValue)...), "", api.ErrLong},
		{"order ahead of room", 1, append(hundreds(), entries("", "")...), "", api.ErrOrder},
	} {
		if s, e := leaf.Pack(c.kind, c.l); s != c.want || e != c.e {
			t.Errorf("%s: %q, %v; want %q, %v", c.what, s, e, c.want, c.e)
		}
	}
}

// hundreds are more entries than a byte can tell.
func hundreds() []api.Entry {
	var l []api.Entry
	for i := range 300 {
		l = append(l, api.Entry{Key: string([]byte{byte(i / 100), byte(i % 100)})})
	}
	return l
}

// TestPackFull: pages without a byte behind the entries, and with one.
func TestPackFull(t *testing.T) {
	want := "\x01\x03\x20" + times("a", 32) + "\x40" + times("x", 64) + "\x20" + times("b", 32) + "\x40" + times("y", 64) + "\x01c\x37" + times("z", 55)
	if s, e := leaf.Pack(leaf.Leaf, full()); s != want || len(s) != 256 || e != api.OK {
		t.Errorf("%q, %v; want %q", s, e, want)
	}
	less := append(full()[:2:2], entries("c", times("z", 54))...)
	if s, e := leaf.Pack(leaf.Leaf, less); len(s) != 256 || s[255] != 0 || s[254] != 'z' || e != api.OK {
		t.Errorf("%q, %v", s, e)
	}
	if s, e := leaf.Pack(leaf.Branch, many()); len(s) != 256 || s[1] != 85 || e != api.OK {
		t.Errorf("%q, %v", s, e)
	}
}

func TestUnpack(t *testing.T) {
	for _, c := range []struct {
		what, s string
		kind    int
		l       []api.Entry
	}{
		{"a = x", page("\x01\x01\x01a\x01x"), 1, entries("a", "x")},
		{"a branch", page("\x02\x01\x01a\x01x"), 2, entries("a", "x")},
		{"no entries", page("\x01"), 1, nil},
		{"an empty entry", page("\x02\x01"), 2, entries("", "")},
		{"an empty key first", page("\x01\x02\x00\x01x\x01\x00\x00"), 1, entries("", "x", "\x00", "")},
		{"bytes 0 of a value at its end", page("\x01\x01\x01a\x02\x00\x00"), 1, entries("a", "\x00\x00")},
		{"the longest", page("\x02\x01\x20" + times("k", 32) + "\x40" + times("v", 64)), 2, entries(times("k", 32), times("v", 64))},
	} {
		if k, l, e := leaf.Unpack(c.s); k != c.kind || !same(l, c.l) || e != api.OK {
			t.Errorf("%s: %d, %q, %v", c.what, k, l, e)
		}
	}
	for _, l := range [][]api.Entry{full(), many()} {
		for kind := 1; kind <= 2; kind++ {
			s, e := leaf.Pack(kind, l)
			if k, m, e2 := leaf.Unpack(s); k != kind || !same(m, l) || e != api.OK || e2 != api.OK {
				t.Errorf("%d, %q: %d, %q, %v, %v", kind, l, k, m, e, e2)
			}
		}
	}
}

// TestNoPage: of what is no page nothing is answered beside ErrForm (R2).
func TestNoPage(t *testing.T) {
	good := page("\x01\x01\x01a\x01x")
	whole, _ := leaf.Pack(leaf.Leaf, full())
	// It has four entries, of which the last is missing: 23 bytes are left for it.
	three := "\x01\x04" + whole[2:200] + "\x20" + times("z", 32)
	for what, s := range map[string]string{
		"nothing":                    "",
		"a byte":                     "\x01",
		"two bytes":                  "\x01\x00",
		"its entries alone":          "\x01\x01\x01a\x01x",
		"a byte less":                good[:255],
		"a byte more":                good + "\x00",
		"twice":                      good + good,
		"a full one, a byte less":    whole[:255],
		"a full one, a byte more":    whole + "\x00",
		"kind 0":                     page("\x00"),
		"kind 0 with an entry":       page("\x00\x01\x01a\x01x"),
		"kind 3":                     page("\x03\x01\x01a\x01x"),
		"kind 255":                   page("\xff"),
		"a byte behind":              good[:255] + "x",
		"a byte just behind":         page("\x01\x01\x01a\x01x\x01"),
		"a byte behind none":         page("\x01\x00\x01a\x01x"),
		"one entry more than told":   page("\x01\x01\x01a\x01x\x01b\x01y"),
		"one entry fewer than told":  page("\x01\x03\x01a\x01x\x01b\x01y"),
		"as many as can't be":        page("\x01\xff"),
		"a key of 33 bytes":          page("\x01\x01\x21" + times("k", 33)),
		"a value of 65 bytes":        page("\x01\x01\x01a\x41" + times("v", 65)),
		"a key beyond the end":       three + "\x20" + times("d", 22),
		"a value beyond the end":     whole[:200] + "\x38" + whole[201:],
		"no room for a value's byte": three + "\x16" + times("d", 22),
		"a key twice":                page("\x01\x02\x01a\x00\x01a\x00"),
		"an empty key twice":         page("\x01\x02"),
		"falling":                    page("\x01\x02\x01b\x00\x01a\x00"),
		"one behind that begins it":  page("\x01\x02\x02ab\x00\x01a\x00"),
	} {
		if k, l, e := leaf.Unpack(s); k != 0 || len(l) != 0 || e != api.ErrForm {
			t.Errorf("%s: %d, %q, %v", what, k, l, e)
		}
	}
}

func TestFind(t *testing.T) {
	l := entries("a", "1", "a\x00", "2", "c", "3", "\x80", "4")
	for _, c := range []struct {
		l   []api.Entry
		key string
		at  int
		ok  bool
	}{
		{nil, "", 0, false},
		{nil, "a", 0, false},
		{entries("a", "", "c", ""), "b", 1, false},
		{l, "", 0, false},
		{l, "A", 0, false},
		{l, "a", 0, true},
		{l, "a\x00", 1, true},
		{l, "a\x00\x00", 2, false},
		{l, "b", 2, false},
		{l, "c", 2, true},
		{l, "c\x00", 3, false},
		{l, "\x80", 3, true},
		{l, "\x80\x00", 4, false},
		{l, "\xff", 4, false},
		{l, times("z", 99), 3, false},
		{entries("", ""), "", 0, true},
		{entries("", "", "a", ""), "", 0, true},
	} {
		if at, ok := leaf.Find(c.l, c.key); at != c.at || ok != c.ok {
			t.Errorf("Find(%q, %q) = %d, %v; want %d, %v", c.l, c.key, at, ok, c.at, c.ok)
		}
	}
}

func TestPut(t *testing.T) {
	l := entries("b", "1", "d", "2")
	for _, c := range []struct {
		l          []api.Entry
		key, value string
		want       []api.Entry
	}{
		{nil, "a", "x", entries("a", "x")},
		{[]api.Entry{}, "", "", entries("", "")},
		{l, "a", "x", entries("a", "x", "b", "1", "d", "2")},
		{l, "c", "x", entries("b", "1", "c", "x", "d", "2")},
		{l, "e", "x", entries("b", "1", "d", "2", "e", "x")},
		{l, "b", "x", entries("b", "x", "d", "2")},
		{l, "d", "x", entries("b", "1", "d", "x")},
		{l, "d", "", entries("b", "1", "d", "")},
		{l, "d", "2", l},
		{l, "", "x", entries("", "x", "b", "1", "d", "2")},
		{l, "b\x00", "x", entries("b", "1", "b\x00", "x", "d", "2")},
		// No limit is told here: Pack refuses what can't lie in a page.
		{l, times("c", 33), times("x", 65), entries("b", "1", times("c", 33), times("x", 65), "d", "2")},
		{full(), "d", "x", append(full(), entries("d", "x")...)},
	} {
		if m := leaf.Put(c.l, c.key, c.value); !same(m, c.want) {
			t.Errorf("Put(%q, %q, %q) = %q, want %q", c.l, c.key, c.value, m, c.want)
		}
	}
}

func TestTake(t *testing.T) {
	l := entries("a", "1", "b", "2", "c", "3")
	for _, c := range []struct {
		l    []api.Entry
		key  string
		want []api.Entry
		ok   bool
	}{
		{nil, "a", nil, false},
		{nil, "", nil, false},
		{entries("a", "x"), "a", nil, true},
		{entries("", "x"), "", nil, true},
		{l, "a", entries("b", "2", "c", "3"), true},
		{l, "b", entries("a", "1", "c", "3"), true},
		{l, "c", entries("a", "1", "b", "2"), true},
		{l, "", l, false},
		{l, "aa", l, false},
		{l, "d", l, false},
	} {
		if m, ok := leaf.Take(c.l, c.key); !same(m, c.want) || ok != c.ok {
			t.Errorf("Take(%q, %q) = %q, %v; want %q, %v", c.l, c.key, m, ok, c.want, c.ok)
		}
	}
}

func TestCut(t *testing.T) {
	v := func(n int) string { return times("v", n) }
	for _, c := range []struct {
		what string
		l    []api.Entry
		at   int
	}{
		{"nothing", nil, 0},
		{"one entry", entries("a", "x"), 1},
		{"one of the longest", entries(times("k", 32), v(64)), 1},
		{"two", entries("a", "", "b", ""), 1},
		{"two, a small one first", entries("", "", times("b", 32), v(64)), 1},
		{"two, a small one last", entries("a", v(64), "b", ""), 1},
		{"three of one size", entries("a", "", "b", "", "c", ""), 1},
		{"four of one size", entries("a", "", "b", "", "c", "", "d", ""), 2},
		{"five of one size", entries("a", "", "b", "", "c", "", "d", "", "e", ""), 2},
		{"a great one first", entries("a", v(60), "b", "", "c", ""), 1},
		{"a great one last", entries("a", "", "b", "", "c", v(60)), 2},
		{"a great one in the middle", entries("a", "", "b", v(60), "c", ""), 1},
		{"by bytes, not by how many", entries("a", v(20), "b", v(1), "c", v(1), "d", v(1), "e", v(1), "f", v(1)), 1},
		{"a byte more on the right", entries("a", v(4), "b", v(3), "c", v(5)), 2},
		{"a byte more on the left", entries("a", v(5), "b", v(3), "c", v(4)), 1},
		{"keys count as well", entries("aaaaaaaaaa", "", "b", "", "c", ""), 1},
		{"an entry's two bytes count", entries("", "", "a", "", "b", "", "c", v(2), "d", v(3)), 3},
	} {
		a, b := leaf.Cut(c.l)
		if !same(a, c.l[:c.at]) || !same(b, c.l[c.at:]) {
			t.Errorf("%s: %d, %d entries, want %d", c.what, len(a), len(b), c.at)
		}
	}
}

// TestLongLists: lists of many entries more than a page has room for are worked with as well.
func TestLongLists(t *testing.T) {
	l := hundreds()
	if a, b := leaf.Cut(l); len(a) != 150 || len(b) != 150 {
		t.Errorf("cut into %d, %d", len(a), len(b))
	}
	for i, x := range l {
		if at, ok := leaf.Find(l, x.Key); at != i || !ok {
			t.Errorf("%q is at %d, %v", x.Key, at, ok)
		}
	}
	if m, ok := leaf.Take(l, l[200].Key); !ok || len(m) != 299 || len(leaf.Put(m, l[200].Key, "")) != 300 {
		t.Error("an entry isn't taken, or isn't put back")
	}
	if n := leaf.Size(l); n != 2+300*4 {
		t.Errorf("the size is %d", n)
	}
}
