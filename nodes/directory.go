package nodes

import (
	"strings"

	"aumbry/api"
	"aumbry/need"
	"aumbry/num"
	"aumbry/space"
)

// The directory's page begins with a byte that tells that it is one, and its depth; at placesAt its places begin.
const (
	mark     = 4
	depthAt  = 1
	placesAt = 2
)

const (
	byteWidth = 1
	pageWidth = 2
)

const hashBits = 32

// directory is the number of the bucket's page for each place of a depth: for each way in which so many bits of a hash may be.
type directory struct {
	depth int
	pages []int
}

func readDirectory(s *space.Space, at int) directory {
	data := need.Of(s.Get(at))
	depth := get(data, depthAt, byteWidth)
	if get(data, 0, byteWidth) != mark || depth > api.MaxDepth {
		need.OK(api.ErrForm)
	}
	pages := make([]int, 1<<depth)
	for i := range pages {
		pages[i] = get(data, placesAt+i*pageWidth, pageWidth)
	}
	return directory{depth: depth, pages: pages}
}

func writeDirectory(s *space.Space, at int, d directory) {
	var data strings.Builder
	data.WriteString(put(mark, byteWidth))
	data.WriteString(put(d.depth, byteWidth))
	for _, page := range d.pages {
		data.WriteString(put(page, pageWidth))
	}
	need.OK(s.Put(at, need.Of(num.Pad(data.String(), api.BlockSize))))
}

// pageOf answers the number of the first page of the bucket where a hash belongs.
func (d directory) pageOf(hash uint32) int { return d.pages[hash>>(hashBits-d.depth)] }

// doubled answers the directory of one depth more, in which each page stands at two places for one.
func (d directory) doubled() directory {
	var pages []int
	for _, page := range d.pages {
		pages = append(pages, page, page)
	}
	return directory{depth: d.depth + 1, pages: pages}
}

// parted answers the directory in which a bucket's page stands no more where the bit behind its Depth is 1: there the other one does.
func (d directory) parted(p page, other int) directory {
	pages := make([]int, len(d.pages))
	for i, at := range d.pages {
		pages[i] = at
		if at == p.number && bit(uint32(i)<<(hashBits-d.depth), p.Depth) == 1 {
			pages[i] = other
		}
	}
	return directory{depth: d.depth, pages: pages}
}

// bit answers the i-th bit of a hash, from its first one on, which is the highest.
func bit(hash uint32, i int) int { return int(hash >> (hashBits - 1 - i) & 1) }

func get(data string, at, width int) int { return int(need.Of(num.Get(data, at, width))) }

func put(n, width int) string { return need.Of(num.Put(uint64(n), width)) }
