package book

import (
	"maps"
	"slices"

	"aumbry/api"
)

// list does what List promises.
func (b *Book) list() []api.Rule {
	rules := b.told().rules
	var l []api.Rule
	for _, id := range slices.Sorted(maps.Keys(rules)) {
		l = append(l, rules[id].rule(id, b.refs.Load))
	}
	return l
}
