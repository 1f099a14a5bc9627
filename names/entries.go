package names

import (
	"math"

	"aumbry/api"
	"aumbry/need"
	"aumbry/num"
	"aumbry/tree"
)

// Where the parts of a symbol's value stand.
const (
	arityAt = 0
	aheadAt = 1
)

const (
	byteWidth = 1
	addrWidth = 6
)

// symbol is what the symbols' tree tells of a name.
type symbol struct {
	arity int
	ahead int // how many were declared ahead of it
}

// entries answers what a tree tells of each of its keys. All of the tree is read: so a Put or a Delete behind it meets no page that can't be read.
func entries[T any](x *tree.Tree, read func(value string) T) map[string]T {
	told := map[string]T{}
	for _, entry := range need.Of(x.List("", math.MaxInt)) {
		told[entry.Key] = read(entry.Value)
	}
	return told
}

func readSymbol(value string) symbol {
	return symbol{arity: int(get(value, arityAt, byteWidth)), ahead: int(get(value, aheadAt, byteWidth))}
}

func writeSymbol(x symbol) string {
	return put(uint64(x.arity), byteWidth) + put(uint64(x.ahead), byteWidth)
}

func readAddr(value string) api.Addr { return api.Addr(get(value, 0, addrWidth)) }

func writeAddr(a api.Addr) string { return put(uint64(a), addrWidth) }

func get(value string, at, width int) uint64 { return need.Of(num.Get(value, at, width)) }

func put(n uint64, width int) string { return need.Of(num.Put(n, width)) }
