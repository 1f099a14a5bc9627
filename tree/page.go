package tree

import (
	"aumbry/api"
	"aumbry/leaf"
	"aumbry/need"
	"aumbry/num"
	"aumbry/space"
)

const numberWidth = 2

// page is what stands in a page of a tree. Its list is never changed; another one comes in its place.
//
// Each branch's first entry has for its key the name of the branch, which is the key that it has above, and in a root is empty. So no key is below that of an entry that leads to it, and two pages fit into one just where their entries do.
type page struct {
	kind int
	list []api.Entry
}

func read(s *space.Space, at int) page {
	kind, list, e := leaf.Unpack(need.Of(s.Get(at)))
	need.OK(e)
	if kind == leaf.Branch && len(list) == 0 {
		need.OK(api.ErrForm)
	}
	return page{kind: kind, list: list}
}

func write(s *space.Space, at int, p page) {
	need.OK(s.Put(at, need.Of(leaf.Pack(p.kind, p.list))))
}

// toward answers the place of a branch's entry below which a key belongs. List alone asks for keys below the first entry's.
func (p page) toward(key string) int {
	i, is := leaf.Find(p.list, key)
	if is {
		return i
	}
	return max(0, i-1)
}

// below answers the number of the page that a branch's entry names.
func below(x api.Entry) int {
	return int(need.Of(num.Get(x.Value, 0, numberWidth)))
}

// naming answers the entry by which a branch names a page, none of whose keys is below key.
func naming(key string, at int) api.Entry {
	return api.Entry{Key: key, Value: need.Of(num.Put(uint64(at), numberWidth))}
}

func fits(list []api.Entry) bool { return leaf.Size(list) <= api.BlockSize }
