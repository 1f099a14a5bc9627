package slot_test

import (
	"math"
	"strings"
	"testing"

	"aumbry/api"
	"aumbry/mix"
	"aumbry/slot"
)

const top = api.Addr(1<<48 - 1)

func times(s string, n int) string { return strings.Repeat(s, n) }

// zeros are n bytes 0.
func zeros(n int) string { return times("\x00", n) }

// page is s with bytes 0 behind it.
func page(s string) string { return s + zeros(256-len(s)) }

// node is one that may be, with this content and second number.
func node(second int, name string, kids ...api.Addr) api.Node {
	h, e := slot.Hash(name, kids)
	a, e2 := slot.Address(h, second)
	if e != api.OK || e2 != api.OK {
		panic("no node")
	}
	return api.Node{At: a, Name: name, Kids: kids}
}

// with is x with this Count and Next.
func with(x api.Node, count int, next api.Addr) api.Node {
	x.Count, x.Next = count, next
	return x
}

func queued(x api.Node) api.Node {
	x.Queued = true
	return x
}

func at(x api.Node, a api.Addr) api.Node {
	x.At = a
	return x
}

func nodes(l ...api.Node) api.Bucket { return api.Bucket{Nodes: l} }

// TestHash: the bytes of a content, written out (Words of the chapter, P15.1).
func TestHash(t *testing.T) {
	for _, c := range []struct {
		name  string
		kids  []api.Addr
		bytes string
	}{
		{"a", nil, "a" + zeros(7) + "\x00"},
		{"a", []api.Addr{}, "a" + zeros(7) + "\x00"},
		{"X", nil, "X" + zeros(7) + "\x00"},
		{"X12", nil, "X12" + zeros(5) + "\x00"},
		{"abcdefg8", nil, "abcdefg8\x00"},
		{"ABCDEFGH", nil, "ABCDEFGH\x00"},
		{"s", []api.Addr{65537}, "s" + zeros(7) + "\x01\x00\x00\x00\x01\x00\x01"},
		{"s", []api.Addr{1}, "s" + zeros(7) + "\x01\x00\x00\x00\x00\x00\x01"},
		{"s", []api.Addr{top}, "s" + zeros(7) + "\x01\xff\xff\xff\xff\xff\xff"},
		{"abcdefgh", []api.Addr{0x010203040506, 0x060504030201}, "abcdefgh\x02\x01\x02\x03\x04\x05\x06\x06\x05\x04\x03\x02\x01"},
		{"f", []api.Addr{1, 2, 3, 4}, "f" + zeros(7) + "\x04" + zeros(5) + "\x01" + zeros(5) + "\x02" + zeros(5) + "\x03" + zeros(5) + "\x04"},
		{"f", []api.Addr{7, 7, 7}, "f" + zeros(7) + "\x03" + zeros(5) + "\x07" + zeros(5) + "\x07" + zeros(5) + "\x07"},
	} {
		if h, e := slot.Hash(c.name, c.kids); h != mix.Hash(c.bytes) || e != api.OK {
			t.Errorf("Hash(%q, %v) = %d, %v; want %d", c.name, c.kids, h, e, mix.Hash(c.bytes))
		}
	}
}

// TestHashNumbers: two hashes as numbers, reckoned apart from the program.
func TestHashNumbers(t *testing.T) {
	a := node(1, "a")
	if h, e := slot.Hash("a", nil); h != 2908500616 || a.At != 2908500616*65536+1 || e != api.OK {
		t.Errorf("Hash(a) = %d, %v", h, e)
	}
	if h, e := slot.Hash("s", []api.Addr{a.At}); h != 1464994265 || e != api.OK {
		t.Errorf("Hash(s over a) = %d, %v", h, e)
	}
}

func TestHashErrors(t *testing.T) {
	for _, c := range []struct {
		what, name string
		kids       []api.Addr
		e          api.Errno
	}{
		{"no name", "", nil, api.ErrName},
		{"both kinds", "Aa", nil, api.ErrName},
		{"a digit first", "2a", nil, api.ErrName},
		{"a long one", "abcdefghi", nil, api.ErrName},
		{"a very long one", times("a", 100000), nil, api.ErrName},
		{"a byte 0 behind", "a\x00", nil, api.ErrName},
		{"eight bytes 0", zeros(8), nil, api.ErrName},
		{"no letter of these", "é", nil, api.ErrName},
		{"five kids", "a", []api.Addr{1, 1, 1, 1, 1}, api.ErrArity},
		{"many kids", "a", make([]api.Addr, 100000), api.ErrArity},
		{"a variable over a kid", "X", []api.Addr{1}, api.ErrArity},
		{"a variable over four", "X", []api.Addr{1, 1, 1, 1}, api.ErrArity},
		{"no kid", "a", []api.Addr{0}, api.ErrRange},
		{"a kid without a second number", "a", []api.Addr{65536}, api.ErrRange},
		{"a kid beyond", "a", []api.Addr{top + 2}, api.ErrRange},
		{"a kid far beyond", "a", []api.Addr{math.MaxUint64}, api.ErrRange},
		{"the last kid", "a", []api.Addr{1, 1, 1, 0}, api.ErrRange},
		{"the first of four", "a", []api.Addr{0, 1, 1, 1}, api.ErrRange},

		{"a name ahead of how many", "Aa", make([]api.Addr, 5), api.ErrName},
		{"a name ahead of a kid", "", []api.Addr{0}, api.ErrName},
		{"how many ahead of a kid", "a", make([]api.Addr, 5), api.ErrArity},
		{"a variable's ahead of a kid", "X", []api.Addr{0}, api.ErrArity},
	} {
		if h, e := slot.Hash(c.name, c.kids); h != 0 || e != c.e {
			t.Errorf("%s: %d, %v; want %v", c.what, h, e, c.e)
		}
	}
}

func TestAddress(t *testing.T) {
	for _, c := range []struct {
		hash   uint32
		second int
		want   api.Addr
		e      api.Errno
	}{
		{1, 1, 65537, api.OK},
		{0, 1, 1, api.OK},
		{0, 65535, 65535, api.OK},
		{1, 65535, 131071, api.OK},
		{math.MaxUint32, 1, 0xffffffff0001, api.OK},
		{math.MaxUint32, 65535, top, api.OK},
		{0x01020304, 0x0506, 0x010203040506, api.OK},
		{1, 0, 0, api.ErrRange},
		{1, -1, 0, api.ErrRange},
		{1, 65536, 0, api.ErrRange},
		{1, 65537, 0, api.ErrRange},
		{0, 0, 0, api.ErrRange},
		{1, 1 << 32, 0, api.ErrRange},
		{1, 1<<32 + 1, 0, api.ErrRange},
		{1, math.MinInt, 0, api.ErrRange},
		{1, math.MinInt + 1, 0, api.ErrRange},
		{math.MaxUint32, math.MaxInt, 0, api.ErrRange},
	} {
		if a, e := slot.Address(c.hash, c.second); a != c.want || e != c.e {
			t.Errorf("Address(%d, %d) = %d, %v; want %d, %v", c.hash, c.second, a, e, c.want, c.e)
		}
	}
}

func TestParts(t *testing.T) {
	for _, c := range []struct {
		a      api.Addr
		hash   uint32
		second int
		ok     bool
	}{
		{65537, 1, 1, true},
		{1, 0, 1, true},
		{65535, 0, 65535, true},
		{top, math.MaxUint32, 65535, true},
		{0xffffffff0001, math.MaxUint32, 1, true},
		{0x010203040506, 0x01020304, 0x0506, true},
		{0, 0, 0, false},
		{65536, 0, 0, false},
		{0xffffffff0000, 0, 0, false},
		{1 << 48, 0, 0, false},
		{1<<48 + 1, 0, 0, false},
		{1<<48 + 65537, 0, 0, false},
		{1<<63 + 1, 0, 0, false},
		{math.MaxUint64, 0, 0, false},
	} {
		if h, n, ok := slot.Parts(c.a); h != c.hash || n != c.second || ok != c.ok {
			t.Errorf("Parts(%d) = %d, %d, %v; want %d, %d, %v", c.a, h, n, ok, c.hash, c.second, c.ok)
		}
	}
}

// TestEverySecond: of some hashes all second numbers, both ways (P15.1).
func TestEverySecond(t *testing.T) {
	for _, hash := range []uint32{0, 1, 65535, 65536, 1 << 31, math.MaxUint32} {
		for second := 1; second <= 65535; second++ {
			a, e := slot.Address(hash, second)
			if h, n, ok := slot.Parts(a); a != api.Addr(hash)*65536+api.Addr(second) || e != api.OK || h != hash || n != second || !ok {
				t.Fatalf("%d, %d: %d, %v; %d, %d, %v", hash, second, a, e, h, n, ok)
			}
		}
	}
}

// TestPage: pages written out byte by byte (Words of the chapter, P15.2, P15.3).
func TestPage(t *testing.T) {
	for _, c := range []struct {
		what string
		b    api.Bucket
		want string
	}{
		{"the example", api.Bucket{Depth: 2, Next: 9}, page("\x03\x02\x00\x09")},
		{"nothing", api.Bucket{}, page("\x03")},
		{"no nodes", api.Bucket{Nodes: []api.Node{}}, page("\x03")},
		{"the greatest", api.Bucket{Depth: 5, Next: 2047}, page("\x03\x05\x07\xff")},
		{"a Next of both bytes", api.Bucket{Depth: 1, Next: 258}, page("\x03\x01\x01\x02")},
		{"a node", nodes(node(1, "a")), page("\x03" + zeros(15) + "\x01\x00\x00\x01a")},
		{"a variable", nodes(node(258, "X")), page("\x03" + zeros(15) + "\x01\x00\x01\x02X")},
		{"all of a slot", nodes(queued(with(node(65535, "abcdefgh", 0x010203040506, 0x111213141516, 0x212223242526, 0x313233343536), math.MaxUint32, top))),
			page("\x03" + zeros(15) + "\x01\x01\xff\xffabcdefgh\x04\xff\xff\xff\xff\xff\xff\xff\xff\xff\xff\x01\x02\x03\x04\x05\x06\x11\x12\x13\x14\x15\x16\x21\x22\x23\x24\x25\x26\x31\x32\x33\x34\x35\x36")},
		{"a count and a Next", nodes(with(node(1, "f", 5), 0x01020304, 0x111213141516)),
			page("\x03" + zeros(15) + "\x01\x00\x00\x01f" + zeros(7) + "\x01\x01\x02\x03\x04\x11\x12\x13\x14\x15\x16" + zeros(5) + "\x05")},
		{"two", api.Bucket{Depth: 4, Next: 1, Nodes: []api.Node{node(2, "b1", 1, 1), queued(node(1, "A"))}},
			page("\x03\x04\x00\x01" + zeros(12) + "\x01\x00\x00\x02b1" + zeros(6) + "\x02" + zeros(10) + zeros(5) + "\x01" + zeros(5) + "\x01" + zeros(13) + "\x01\x01\x00\x01A")},
	} {
		if s, e := slot.Pack(c.b); s != c.want || e != api.OK {
			t.Errorf("%s: Pack is %q, %v; want %q", c.what, s, e, c.want)
		}
		if b, e := slot.Unpack(c.want); !same(b, c.b) || e != api.OK {
			t.Errorf("%s: Unpack is %v, %v; want %v", c.what, b, e, c.b)
		}
	}
}

// five are as many nodes as can lie in a page, each of whose bytes but the last one can be another than 0.
func five() []api.Node {
	var l []api.Node
	for i := range 5 {
		l = append(l, queued(with(node(i+1, "abcdefgh", top, top, top, top), math.MaxUint32, top)))
	}
	return l
}

// TestFullPage: five nodes; the last byte of the page is 0, the one ahead of it isn't.
func TestFullPage(t *testing.T) {
	s, e := slot.Pack(nodes(five()...))
	if e != api.OK || len(s) != 256 || s[255] != 0 || s[254] != 255 {
		t.Errorf("%q, %v", s, e)
	}
	for i := range 5 {
		want := "\x01\x01\x00" + string([]byte{byte(i + 1)}) + "abcdefgh\x04" + times("\xff", 34) + "\x00"
		if got := s[16+48*i : 64+48*i]; got != want {
			t.Errorf("slot %d: %q, want %q", i, got, want)
		}
	}
	if b, e := slot.Unpack(s); !same(b, nodes(five()...)) || e != api.OK {
		t.Errorf("%v, %v", b, e)
	}
}

// TestOrderStays: nodes lie in the order in which they are handed in, whatever their addresses.
func TestOrderStays(t *testing.T) {
	a, b, c := node(3, "a"), node(2, "b"), node(1, "a")
	for _, l := range [][]api.Node{{a, b, c}, {c, b, a}, {b, a, c}} {
		s, _ := slot.Pack(nodes(l...))
		if x, e := slot.Unpack(s); !same(x, nodes(l...)) || e != api.OK {
			t.Errorf("%v: %v, %v", l, x, e)
		}
	}
}
