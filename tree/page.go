package tree

import (
	"aumbry/api"
	"aumbry/leaf"
	"aumbry/num"
	"aumbry/space"
)

const numberWidth = 2

// page is what stands in a page of a tree. Its list is never changed; another one comes in its place.
//
// Each branch's first entry has for its key the name of the branch, which is the key that it has above, and in a root is empty. So no key is below that of an entry that leads to it, and two pages fit into one just where their entries do.
type page struct {
	kind int
	list []api.Entry
}

func read(s *space.Space, at int) page {
	data, e := s.Get(at)
	need(e)
	kind, list, e := leaf.Unpack(data)
	need(e)
	if kind == leaf.Branch && len(list) == 0 {
		need(api.ErrForm)
	}
	return page{kind: kind, list: list}
}

func write(s *space.Space, at int, p page) {
	data, e := leaf.Pack(p.kind, p.list)
	need(e)
	need(s.Put(at, data))
}

// toward answers the place of a branch's entry below which a key belongs. List alone asks for keys below the first entry's.
func (p page) toward(key string) int {
	i, is := leaf.Find(p.list, key)
	if is {
		return i
	}
	return max(0, i-1)
}

// below answers the number of the page that a branch's entry names.
func below(x api.Entry) int {
	at, e := num.Get(x.Value, 0, numberWidth)
	need(e)
	return int(at)
}

// naming answers the entry by which a branch names a page, none of whose keys is below key.
func naming(key string, at int) api.Entry {
	value, e := num.Put(uint64(at), numberWidth)
	need(e)
	return api.Entry{Key: key, Value: value}
}

func fits(list []api.Entry) bool { return leaf.Size(list) <= api.BlockSize }
