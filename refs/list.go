package refs

import (
	"strings"

	"aumbry/api"
	"aumbry/need"
	"aumbry/num"
	"aumbry/space"
)

// The list's page begins with a byte that tells that it is one.
const (
	mark    = 5
	firstAt = 1
	countAt = 7
)

const (
	byteWidth  = 1
	addrWidth  = 6
	countWidth = 4
)

// list is where the waiting nodes begin, and how many there are. Each one's Next tells the one behind it.
type list struct {
	first api.Addr
	count int
}

func readList(s *space.Space, at int) list {
	data := need.Of(s.Get(at))
	if get(data, 0, byteWidth) != mark {
		need.OK(api.ErrForm)
	}
	return list{first: api.Addr(get(data, firstAt, addrWidth)), count: int(get(data, countAt, countWidth))}
}

func writeList(s *space.Space, at int, l list) {
	var data strings.Builder
	data.WriteString(put(mark, byteWidth))
	data.WriteString(put(uint64(l.first), addrWidth))
	data.WriteString(put(uint64(l.count), countWidth))
	need.OK(s.Put(at, need.Of(num.Pad(data.String(), api.BlockSize))))
}

func get(data string, at, width int) uint64 { return need.Of(num.Get(data, at, width)) }

func put(n uint64, width int) string { return need.Of(num.Put(n, width)) }
