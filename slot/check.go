package slot

import (
	"math"

	"aumbry/api"
	"aumbry/name"
)

const maxCount = math.MaxUint32

// check answers why b is no bucket; OK, if it is one.
func check(b api.Bucket) api.Errno {
	if b.Depth < 0 || b.Depth > api.MaxDepth || b.Next < 0 || b.Next >= api.MaxBlocks {
		return api.ErrRange
	}
	if len(b.Nodes) > api.MaxSlots {
		return api.ErrMany
	}
	for i, x := range b.Nodes {
		if e := checkNode(x); e != api.OK {
			return e
		}
		if has(b.Nodes[:i], x.At) {
			return api.ErrTwice
		}
	}
	return api.OK
}

// checkNode answers why x may not be; OK, if it may.
func checkNode(x api.Node) api.Errno {
	want, e := Hash(x.Name, x.Kids)
	if e != api.OK {
		return e
	}
	if x.Count < 0 || uint64(x.Count) > maxCount || x.Next != 0 && !isAddress(x.Next) {
		return api.ErrRange
	}
	if hash, _, ok := Parts(x.At); !ok || hash != want {
		return api.ErrForm
	}
	return api.OK
}

// checkContent answers why s over kids is no node's content; OK, if it is.
func checkContent(s string, kids []api.Addr) api.Errno {
	kind := name.Kind(s)
	if kind == name.None {
		return api.ErrName
	}
	if len(kids) > api.MaxArity || kind == name.Variable && len(kids) > 0 {
		return api.ErrArity
	}
	for _, a := range kids {
		if !isAddress(a) {
			return api.ErrRange
		}
	}
	return api.OK
}

func isAddress(a api.Addr) bool {
	_, _, ok := Parts(a)
	return ok
}

func has(l []api.Node, a api.Addr) bool {
	for _, x := range l {
		if x.At == a {
			return true
		}
	}
	return false
}
