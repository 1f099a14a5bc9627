package fresh_test

import (
	"slices"
	"testing"
	"unsafe"

	"aumbry/api"
	"aumbry/fresh"
)

func TestTerm(t *testing.T) {
	const text = "plus(zero,X)"
	for _, cells := range []api.Term{
		nil, {}, {{Name: text[5:9]}}, {{Name: text[:4], Arity: 2}, {Name: text[5:9]}, {Name: text[10:11]}},
		// Whatever the cells hold is answered again, right or not.
		{{Name: "", Arity: -1}, {Name: text, Arity: 7}},
	} {
		roomy := append(make(api.Term, 0, 8), cells...)
		again := fresh.Term(roomy)
		if !slices.Equal(again, cells) || cap(again) != len(again) {
			t.Errorf("Term(%v) = %v with room for %d", cells, again, cap(again))
		}
		for i, c := range again {
			if c.Name != "" && unsafe.StringData(c.Name) == unsafe.StringData(cells[i].Name) {
				t.Errorf("Term(%v) shares the name of cell %d", cells, i)
			}
		}
		clear(roomy[:cap(roomy)])
		if !slices.Equal(again, cells) {
			t.Errorf("Term(%v) hangs on what was handed in", cells)
		}
	}
}
