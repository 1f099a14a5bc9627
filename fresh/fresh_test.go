package fresh_test

import (
	"reflect"
	"slices"
	"testing"
	"unsafe"

	"aumbry/api"
	"aumbry/fresh"
)

func TestTerm(t *testing.T) {
	const text = "plus(zero,X)"
	for _, cells := range []api.Term{
		nil, {}, {{Name: text[5:9]}}, {{Name: text[:4], Arity: 2}, {Name: text[5:9]}, {Name: text[10:11]}},
		// Whatever the cells hold is answered again, right or not.
		{{Name: "", Arity: -1}, {Name: text, Arity: 7}},
	} {
		roomy := append(make(api.Term, 0, 8), cells...)
		again := fresh.Term(roomy)
		if !slices.Equal(again, cells) || cap(again) != len(again) {
			t.Errorf("Term(%v) = %v with room for %d", cells, again, cap(again))
		}
		for i, c := range again {
			if c.Name != "" && unsafe.StringData(c.Name) == unsafe.StringData(cells[i].Name) {
				t.Errorf("Term(%v) shares the name of cell %d", cells, i)
			}
		}
		clear(roomy[:cap(roomy)])
		if !slices.Equal(again, cells) {
			t.Errorf("Term(%v) hangs on what was handed in", cells)
		}
	}
}

// sample is a state, right or not, two of whose parts share their cells.
func sample() api.State {
	const text = "plus(zero,s)"
	shared := append(make(api.Term, 0, 4), api.Cell{Name: text[11:], Arity: 1}, api.Cell{Name: text[5:9]})
	return api.State{
		Ops:   []api.Op{{Kind: api.OpMake, Cell: api.Cell{Name: text[:4], Arity: 2}}, {Kind: api.OpHave, Value: shared}, {Kind: 7, Cell: api.Cell{Name: text, Arity: -1}, Value: shared}},
		Vals:  []api.Term{shared, nil, shared[1:]},
		Steps: -3,
		Heads: []string{text[5:9], text[:4]},
	}
}

func TestState(t *testing.T) {
	if again := fresh.State(api.State{}); !reflect.DeepEqual(again, api.State{}) {
		t.Errorf("State of nothing = %v", again)
	}
	s := sample()
	again := fresh.State(s)
	if !reflect.DeepEqual(again, sample()) {
		t.Errorf("State(%v) = %v", s, again)
	}
	// Each list of the answer is written over alone: none of the others is to change.
	for i := range again.Ops {
		clear(again.Ops[i].Value)
		again.Ops[i].Value = slices.Clone(sample().Ops[i].Value)
	}
	for i := range again.Vals {
		clear(again.Vals[i])
		again.Vals[i] = slices.Clone(sample().Vals[i])
	}
	for i := range s.Heads {
		if unsafe.StringData(again.Heads[i]) == unsafe.StringData(s.Heads[i]) {
			t.Errorf("State shares the head %s", s.Heads[i])
		}
	}
	for i, op := range s.Ops {
		if op.Cell.Name != "" && unsafe.StringData(again.Ops[i].Cell.Name) == unsafe.StringData(op.Cell.Name) {
			t.Errorf("State shares the name of op %d", i)
		}
	}
	clear(s.Vals[0][:cap(s.Vals[0])])
	clear(s.Ops)
	clear(s.Vals)
	clear(s.Heads)
	if !reflect.DeepEqual(again, sample()) {
		t.Errorf("State hangs on what was handed in, or its lists on one another: %v", again)
	}
}
