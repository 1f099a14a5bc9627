package book

import (
	"math"

	"aumbry/api"
	"aumbry/need"
	"aumbry/num"
)

// The keys of the tree: that of the counts, and what stands ahead of a rule's number.
const (
	countsKey = "v"
	ruleMark  = "r"
)

// Where the next rule's number stands, behind the number of changes; and a rule's number in its key.
const (
	nextAt = 8
	idAt   = len(ruleMark)
)

const (
	changesWidth = 8
	nextWidth    = 4
	idWidth      = 2
	addrWidth    = 6
)

// told is all that the tree tells.
type told struct {
	counts
	rules map[int]sides // by their numbers
}

// counts is how often the rules were changed, and the next rule's number.
type counts struct{ changes, next int }

// sides is where the left side of a rule lies, and the right one.
type sides [2]api.Addr

// told reads all of the tree: so a Put or a Delete behind it meets no page that can't be read.
func (b *Book) told() told {
	t := told{rules: map[int]sides{}}
	for _, entry := range need.Of(b.tree.List("", math.MaxInt)) {
		if entry.Key == countsKey {
			t.counts = readCounts(entry.Value)
			continue
		}
		var s sides
		s.read(entry.Value)
		t.rules[int(get(entry.Key, idAt, idWidth))] = s
	}
	return t
}

// counts reads them alone.
func (b *Book) counts() counts {
	value, _, e := b.tree.Get(countsKey)
	need.OK(e)
	return readCounts(value)
}

func keyOf(id int) string { return ruleMark + put(uint64(id), idWidth) }

func readCounts(value string) counts {
	return counts{changes: int(get(value, 0, changesWidth)), next: int(get(value, nextAt, nextWidth))}
}

func (c counts) write() string {
	return put(uint64(c.changes), changesWidth) + put(uint64(c.next), nextWidth)
}

func (s *sides) read(value string) {
	for i := range s {
		s[i] = api.Addr(get(value, i*addrWidth, addrWidth))
	}
}

func (s sides) write() string {
	var value string
	for _, a := range s {
		value += put(uint64(a), addrWidth)
	}
	return value
}

// rule answers the rule with these sides, each of which is told by load.
func (s sides) rule(id int, load func(api.Addr) (api.Term, api.Errno)) api.Rule {
	return api.Rule{ID: id, Left: need.Of(load(s[0])), Right: need.Of(load(s[1]))}
}

// each does the same with one side behind the other, and gives up at an error.
func (s sides) each(do func(api.Addr) api.Errno) {
	for _, a := range s {
		need.OK(do(a))
	}
}

func get(s string, at, width int) uint64 { return need.Of(num.Get(s, at, width)) }

func put(n uint64, width int) string { return need.Of(num.Put(n, width)) }
