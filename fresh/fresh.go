// Package fresh answers things again in memory of their own, as rule R4 asks of what a call answers.
package fresh

import (
	"strings"

	"aumbry/api"
)

// Term answers t in memory of its own, the names' too: a piece of a text would keep all of it alive.
func Term(t api.Term) api.Term {
	if len(t) == 0 {
		return nil
	}
	cells := make(api.Term, len(t))
	for i, c := range t {
		cells[i] = cell(c)
	}
	return cells
}

// State answers s in memory of its own, that of each op and each value apart from all others'.
func State(s api.State) api.State {
	again := api.State{Steps: s.Steps}
	for _, op := range s.Ops {
		again.Ops = append(again.Ops, api.Op{Kind: op.Kind, Cell: cell(op.Cell), Value: Term(op.Value)})
	}
	for _, value := range s.Vals {
		again.Vals = append(again.Vals, Term(value))
	}
	for _, head := range s.Heads {
		again.Heads = append(again.Heads, strings.Clone(head))
	}
	return again
}

func cell(c api.Cell) api.Cell { return api.Cell{Name: strings.Clone(c.Name), Arity: c.Arity} }
