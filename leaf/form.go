package leaf

import (
	"strings"

	"aumbry/api"
	"aumbry/num"
)

// Ahead of the entries stand the kind and how many they are, ahead of a text how many bytes it has: a byte each.
const (
	frontSize = 2
	byteWidth = 1
)

// sizeOf answers how many bytes of a page an entry takes.
func sizeOf(x api.Entry) int { return byteWidth + len(x.Key) + byteWidth + len(x.Value) }

// check answers why l isn't right; OK, if it is.
func check(l []api.Entry) api.Errno {
	for i, x := range l {
		if len(x.Key) > api.MaxKey || len(x.Value) > api.MaxValue {
			return api.ErrLong
		}
		if i > 0 && x.Key <= l[i-1].Key {
			return api.ErrOrder
		}
	}
	return api.OK
}

// write answers the page of a list that is right and fits. It asks for no error, nor does writeByte: so short a list has fewer entries, and its texts fewer bytes, than a byte can tell.
func write(kind int, l []api.Entry) string {
	var b strings.Builder
	b.WriteString(writeByte(kind) + writeByte(len(l)))
	for _, x := range l {
		b.WriteString(writeByte(len(x.Key)) + x.Key)
		b.WriteString(writeByte(len(x.Value)) + x.Value)
	}
	page, _ := num.Pad(b.String(), api.BlockSize)
	return page
}

func writeByte(n int) string {
	s, _ := num.Put(uint64(n), byteWidth)
	return s
}

// read answers what stands in a page; false, if something is missing there. Whether it may stand there isn't asked.
func read(s string) (int, []api.Entry, bool) {
	r := reader{rest: s}
	kind, count := r.number(), r.number()
	var l []api.Entry
	for range count {
		l = append(l, api.Entry{Key: r.text(), Value: r.text()})
	}
	return kind, l, !r.short
}

// reader goes through a page. Once something is missing it answers nothing more.
type reader struct {
	rest  string
	short bool
}

func (r *reader) number() int {
	n, e := num.Get(r.rest, 0, byteWidth)
	if e != api.OK {
		r.short = true
		return 0
	}
	r.rest = r.rest[byteWidth:]
	return int(n)
}

func (r *reader) text() string {
	n := r.number()
	if n > len(r.rest) {
		r.short, r.rest = true, ""
		return ""
	}
	s := r.rest[:n]
	r.rest = r.rest[n:]
	// A piece of the page would share its memory (R4), and keep all of it alive.
	return strings.Clone(s)
}
