package book

import (
	"aumbry/ahead"
	"aumbry/api"
	"aumbry/need"
	"aumbry/rule"
	"aumbry/space"
	"aumbry/tree"
)

const (
	firstID = 1
	mostID  = 65535
)

// A change of several parts has looked at all of them ahead of the first one. So what can't be done or read is met while nothing has changed; and what was read once can be read again, also with the power off.

// create does what New promises.
func create(s *space.Space) int {
	root := need.Of(tree.New(s))
	writeCounts(tree.At(s, root), counts{next: firstID})
	return root
}

func writeCounts(x *tree.Tree, c counts) { need.OK(x.Put(countsKey, c.write())) }

// add does what Add promises.
func (b *Book) add(x api.Rule) int {
	plain := need.Of(rule.Plain(x))
	t := b.told()
	id := t.next
	if len(t.rules) >= api.MaxRules || id > mostID {
		need.OK(api.ErrMany)
	}
	look := ahead.At(b.refs)
	need.OK(look.Keep(plain.Left))
	need.OK(look.Keep(plain.Right))
	s := sides{need.Of(b.refs.Keep(plain.Left)), need.Of(b.refs.Keep(plain.Right))}
	need.OK(b.tree.Put(keyOf(id), s.write()))
	writeCounts(b.tree, counts{changes: t.changes + 1, next: id + 1})
	return id
}

// remove does what Remove promises.
func (b *Book) remove(id int) (api.Rule, bool) {
	t := b.told()
	s, is := t.rules[id]
	if !is {
		return api.Rule{}, false
	}
	x := s.rule(id, b.refs.Load)
	s.each(ahead.At(b.refs).Drop)
	need.Of(b.tree.Delete(keyOf(id)))
	writeCounts(b.tree, counts{changes: t.changes + 1, next: t.next})
	s.each(b.refs.Drop)
	return x, true
}
