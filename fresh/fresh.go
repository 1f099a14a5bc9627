// Package fresh answers things again in memory of their own, as rule R4 asks of what a call answers.
package fresh

import (
	"strings"

	"aumbry/api"
)

// Term answers t in memory of its own, the names' too: a piece of a text would keep all of it alive.
func Term(t api.Term) api.Term {
	cells := make(api.Term, len(t))
	for i, c := range t {
		cells[i] = api.Cell{Name: strings.Clone(c.Name), Arity: c.Arity}
	}
	return cells
}
