package space

import (
	"aumbry/api"
	"aumbry/journal"
	"aumbry/num"
)

const (
	headAt     = 0
	mark       = "aumbry"
	countWidth = 2
	byteBits   = 8
)

// markOf answers how the head page of a space on n blocks begins. It asks for no error, nor do padded and bits.with: a disk's number of blocks fits, nothing is padded that is longer than a page, and the map has a byte for each bit that is asked for.
func markOf(n int) string {
	count, _ := num.Put(uint64(n), countWidth)
	return mark + count
}

// padded answers a page that begins with s, and has bytes 0 behind it.
func padded(s string) string {
	page, _ := num.Pad(s, api.BlockSize)
	return page
}

// mapAt answers where the map is on a disk of n blocks.
func mapAt(n int) int { return journal.First(n) }

// endOf answers the number behind the last page there. The head page is one of those that the journal counts, but stands ahead of it.
func endOf(n int) int { return journal.First(n) + journal.Pages(n) - 1 }

// isUsers answers whether a page of the user's has this number there.
func isUsers(n, at int) bool { return at > mapAt(n) && at < endOf(n) }

// bits is the map's bytes: the i-th bit, in each byte the lowest one first, is 1 if the i-th page from the map on is taken.
type bits string

func (b bits) has(i int) bool { return b[i/byteBits]>>(i%byteBits)&1 == 1 }

// with answers the map in which the i-th page is taken, or isn't.
func (b bits) with(i int, taken bool) bits {
	one := byte(1) << (i % byteBits)
	n := b[i/byteBits] &^ one
	if taken {
		n |= one
	}
	s, _ := num.Set(string(b), i/byteBits, uint64(n), 1)
	return bits(s)
}

// firstMap answers the map of which the map alone is taken.
func firstMap() bits { return bits(padded("")).with(0, true) }
