package slot_test

import (
	"math"
	"testing"

	"aumbry/api"
	"aumbry/slot"
)

// TestPackErrors: each error of Pack alone, at the edges, and beside those that its sentence names behind it (P15.2, R2).
func TestPackErrors(t *testing.T) {
	a, f := node(1, "a"), node(7, "f", 1, 2)
	name, arity, kid := api.Node{Name: "Aa"}, api.Node{Name: "X", Kids: []api.Addr{1}}, api.Node{Name: "a", Kids: []api.Addr{0}}
	for _, c := range []struct {
		what string
		b    api.Bucket
		e    api.Errno
	}{
		{"a Depth below", api.Bucket{Depth: -1}, api.ErrRange},
		{"a Depth above", api.Bucket{Depth: 6}, api.ErrRange},
		{"a Depth of a byte more", api.Bucket{Depth: 256}, api.ErrRange},
		{"a Depth far below", api.Bucket{Depth: math.MinInt}, api.ErrRange},
		{"a Depth far above", api.Bucket{Depth: math.MaxInt}, api.ErrRange},
		{"a Next below", api.Bucket{Next: -1}, api.ErrRange},
		{"a Next above", api.Bucket{Next: 2048}, api.ErrRange},
		{"a Next of two bytes more", api.Bucket{Next: 65536}, api.ErrRange},
		{"a Next far below", api.Bucket{Next: math.MinInt}, api.ErrRange},
		{"a Next far above", api.Bucket{Next: math.MaxInt}, api.ErrRange},
		{"six nodes", nodes(append(five(), a)...), api.ErrMany},
		{"many nodes", nodes(make([]api.Node, 100000)...), api.ErrMany},
		{"a name", nodes(name), api.ErrName},
		{"no name", nodes(api.Node{}), api.ErrName},
		{"a variable over a kid", nodes(arity), api.ErrArity},
		{"five kids", nodes(api.Node{Name: "a", Kids: []api.Addr{1, 1, 1, 1, 1}}), api.ErrArity},
		{"a kid that is no address", nodes(kid), api.ErrRange},
		{"a count below", nodes(with(a, -1, 0)), api.ErrRange},
		{"a count above", nodes(with(a, 1<<32, 0)), api.ErrRange},
		{"a count far below", nodes(with(a, math.MinInt, 0)), api.ErrRange},
		{"a count far above", nodes(with(a, math.MaxInt, 0)), api.ErrRange},
		{"a node's Next without a second number", nodes(with(a, 0, 65536)), api.ErrRange},
		{"a node's Next beyond", nodes(with(a, 0, 1<<48+1)), api.ErrRange},
		{"a node's Next far beyond", nodes(with(a, 0, math.MaxUint64)), api.ErrRange},
		{"no At", nodes(at(a, 0)), api.ErrForm},
		{"an At without a second number", nodes(at(a, a.At-1)), api.ErrForm},
		{"an At beyond", nodes(at(a, a.At+1<<48)), api.ErrForm},
		{"an At with another hash", nodes(at(a, a.At+65536)), api.ErrForm},
		{"another one's At", nodes(at(a, f.At)), api.ErrForm},
		{"an At of the name alone", nodes(at(f, node(1, "f").At)), api.ErrForm},
		{"an At of the kids the other way", nodes(at(f, node(7, "f", 2, 1).At)), api.ErrForm},
		{"a node twice", nodes(a, a), api.ErrTwice},
		{"an At twice", nodes(a, f, queued(with(a, 3, 5))), api.ErrTwice},
		{"the last two", nodes(node(2, "a"), f, node(3, "a"), a, a), api.ErrTwice},
		{"the first and the last", nodes(a, f, node(3, "a"), node(2, "a"), a), api.ErrTwice},

		{"the edges", api.Bucket{Depth: 5, Next: 2047, Nodes: five()}, api.OK},
		{"the greatest count", nodes(with(a, 1<<32-1, 1)), api.OK},
		{"one content, two addresses", nodes(a, node(2, "a")), api.OK},
		{"a node that leads to itself", nodes(with(a, 0, a.At)), api.OK},

		{"the head ahead of how many", api.Bucket{Depth: 6, Nodes: make([]api.Node, 6)}, api.ErrRange},
		{"its Next ahead of how many", api.Bucket{Next: -1, Nodes: make([]api.Node, 6)}, api.ErrRange},
		{"the head ahead of the nodes", api.Bucket{Next: 2048, Nodes: []api.Node{name}}, api.ErrRange},
		{"how many ahead of the nodes", nodes(name, name, name, name, name, name), api.ErrMany},
		{"how many ahead of twice", nodes(a, a, a, a, a, a), api.ErrMany},
		{"a name ahead of its kids, count and At", nodes(api.Node{Name: "a2A", Kids: make([]api.Addr, 5), Count: -1}), api.ErrName},
		{"how many kids ahead of them, count and At", nodes(api.Node{Name: "a", Kids: make([]api.Addr, 5), Count: -1, Next: 65536}), api.ErrArity},
		{"a count ahead of At", nodes(at(with(a, -1, 0), 0)), api.ErrRange},
		{"a Next ahead of At", nodes(at(with(a, 0, 65536), 0)), api.ErrRange},
		{"a count ahead of twice", nodes(a, with(a, -1, 0)), api.ErrRange},
		{"an At that is none, twice", nodes(at(a, 0), at(a, 0)), api.ErrForm},
		{"node by node, form", nodes(at(a, 0), name), api.ErrForm},
		{"node by node, twice", nodes(a, a, name), api.ErrTwice},
		{"node by node, range", nodes(with(a, -1, 0), name), api.ErrRange},
		{"node by node, name", nodes(name, with(a, -1, 0)), api.ErrName},
		{"node by node, arity", nodes(a, arity, name, at(a, 0)), api.ErrArity},
		{"node by node, a kid", nodes(a, f, kid, name), api.ErrRange},
	} {
		s, e := slot.Pack(c.b)
		if e != c.e || (s == "") != (e != api.OK) {
			t.Errorf("%s: %q, %v; want %v", c.what, s, e, c.e)
		}
	}
}

// slotted is a page of the Depth 1 in whose i-th slot s stands, with bytes 0 behind it.
func slotted(slots ...string) string {
	p := "\x03\x01\x00\x00" + zeros(12)
	for _, s := range slots {
		p += s + zeros(48-len(s))
	}
	return page(p)
}

// TestNoPage: of what is no page nothing is answered beside ErrForm (P15.2, R2).
func TestNoPage(t *testing.T) {
	a, b := "\x01\x00\x00\x01a", "\x01\x00\x00\x01b"
	f := "\x01\x01\x00\x01f" + zeros(7) + "\x02" + zeros(10) + zeros(5) + "\x01" + zeros(5) + "\x02"
	good, whole := slotted(a, f), slotted(a, b, f, "\x01\x00\x00\x02b", "\x01\x00\x00\x02a")
	for _, s := range []string{good, whole, slotted(a), slotted(f, b)} {
		if _, e := slot.Unpack(s); e != api.OK {
			t.Fatalf("%q: %v", s, e)
		}
	}
	for what, s := range map[string]string{
		"nothing":                        "",
		"a byte":                         "\x03",
		"its head alone":                 "\x03\x01\x00\x00" + zeros(12),
		"a byte less":                    good[:255],
		"a byte more":                    good + "\x00",
		"twice":                          good + good,
		"a full one, a byte less":        whole[:255],
		"a full one, a slot more":        whole + "\x01\x00\x00\x01c" + zeros(43),
		"bytes 0":                        zeros(256),
		"a leaf's":                       page("\x01"),
		"a branch's":                     page("\x02"),
		"a directory's":                  page("\x04"),
		"a Depth of 6":                   page("\x03\x06"),
		"a Depth of 255":                 page("\x03\xff"),
		"a Next of 2048":                 page("\x03\x00\x08\x00"),
		"a Next of 65535":                page("\x03\x00\xff\xff"),
		"a byte behind Next":             page("\x03\x01\x00\x00\x01"),
		"a byte ahead of the slots":      page("\x03\x01" + zeros(13) + "\x01"),
		"a slot that begins with 2":      slotted("\x02" + a[1:]),
		"a slot that begins with 0":      slotted("\x00" + a[1:]),
		"a slot left out":                slotted("", a),
		"a slot left out between others": slotted(a, "", b),
		"a byte behind the nodes":        whole[:16] + a + zeros(43) + zeros(48) + zeros(143) + "\x01",
		"a byte in a slot not used":      slotted(a, "\x00\x00\x00\x00\x00\x00\x01"),
		"Queued is 2":                    slotted("\x01\x02" + a[2:]),
		"the second number is 0":         slotted("\x01\x00\x00\x00a"),
		"no name":                        slotted("\x01\x00\x00\x01"),
		"a name of both kinds":           slotted(a + "A"),
		"a name that begins with a 0":    slotted("\x01\x00\x00\x01\x00a"),
		"a name with a byte 0 within":    slotted(a + "\x00a"),
		"a name of another byte":         slotted(a + "-"),
		"five kids":                      slotted(a + zeros(7) + "\x05" + zeros(10) + times("\x00\x00\x00\x00\x00\x01", 4)),
		"255 kids":                       slotted(a + zeros(7) + "\xff"),
		"a kid told, none there":         slotted(a + zeros(7) + "\x01"),
		"two told, the first is 0":       slotted(a + zeros(7) + "\x02" + zeros(10) + zeros(6) + zeros(5) + "\x01"),
		"one told, two there":            slotted(f[:12] + "\x01" + f[13:]),
		"none told, one there":           slotted(a + zeros(7) + "\x00" + zeros(10) + zeros(5) + "\x01"),
		"three told, two there":          slotted(f[:12] + "\x03" + f[13:]),
		"one told, the second there":     slotted(a + zeros(7) + "\x01" + zeros(10) + zeros(6) + zeros(5) + "\x01"),
		"one behind those told":          slotted(f + zeros(11) + "\x01"),
		"a kid that is no address":       slotted(a + zeros(7) + "\x01" + zeros(10) + "\x00\x00\x00\x01\x00\x00"),
		"a variable over a kid":          slotted("\x01\x00\x00\x01X" + zeros(7) + "\x01" + zeros(10) + zeros(5) + "\x01"),
		"a Next that is no address":      slotted(a + zeros(12) + "\x00\x00\x00\x01\x00\x00"),
		"a slot's last byte":             slotted(a + zeros(42) + "\x01"),
		"the last byte of all":           whole[:255] + "\x01",
		"a node twice":                   slotted(a, a),
		"an address twice":               slotted(a, b, "\x01\x01\x00\x01a"+zeros(7)+"\x00\x00\x00\x00\x05"),
	} {
		if b, e := slot.Unpack(s); !same(b, api.Bucket{}) || e != api.ErrForm {
			t.Errorf("%s: %v, %v", what, b, e)
		}
	}
}
