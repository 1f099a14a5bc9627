package slot

import (
	"aumbry/api"
	"aumbry/num"
)

// A page begins with a byte that tells that it is a bucket's, its Depth and its Next; at slotsAt its slots begin.
const (
	mark     = 3
	depthAt  = 1
	nextAt   = 2
	slotsAt  = 16
	slotSize = 48
)

const (
	byteWidth   = 1
	pageWidth   = 2
	secondWidth = 2
	countWidth  = 4
	addrWidth   = 6
)

// content answers the bytes of which a node's hash is taken.
func content(s string, kids []api.Addr) string {
	var b [api.MaxName + byteWidth + api.MaxArity*addrWidth]byte
	at := copy(b[:], padded(s))
	at += copy(b[at:], put(uint64(len(kids)), byteWidth))
	for _, a := range kids {
		at += copy(b[at:], put(uint64(a), addrWidth))
	}
	return string(b[:at])
}

// write answers the page of a bucket that may be.
func write(b api.Bucket) string {
	var page [api.BlockSize]byte
	copy(page[:], put(mark, byteWidth))
	copy(page[depthAt:], put(uint64(b.Depth), byteWidth))
	copy(page[nextAt:], put(uint64(b.Next), pageWidth))
	l := fields()
	for i, x := range b.Nodes {
		one := slotOf(x, l)
		copy(page[slotsAt+i*slotSize:], one[:])
	}
	return string(page[:])
}

// read answers what stands in a page up to the first slot that isn't used. Whether it may stand there isn't asked.
func read(page string) api.Bucket {
	b := api.Bucket{Depth: int(get(page, depthAt, byteWidth)), Next: int(get(page, nextAt, pageWidth))}
	l := fields()
	for at := slotsAt; at < len(page) && page[at] == used; at += slotSize {
		b.Nodes = append(b.Nodes, nodeAt(page, at, l))
	}
	return b
}

// padded answers a name's bytes. It asks for no error, nor do put and get: names and numbers that were checked fit, and a page has bytes wherever it is looked at.
func padded(s string) string {
	b, _ := num.Pad(s, api.MaxName)
	return b
}

func put(n uint64, width int) string {
	s, _ := num.Put(n, width)
	return s
}

func get(s string, at, width int) uint64 {
	n, _ := num.Get(s, at, width)
	return n
}
