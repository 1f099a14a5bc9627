package rewrite

import (
	"slices"

	"aumbry/api"
	"aumbry/fresh"
	"aumbry/match"
)

// running is a run under way. Its lists are its own; the terms in them are never changed, and so may share memory with one another and with what was handed in.
type running struct {
	api.State
	rules []api.Rule
	fuel  int
	table Table
}

func begin(rules []api.Rule, s api.State, fuel int, table Table) *running {
	own := api.State{Ops: slices.Clone(s.Ops), Vals: slices.Clone(s.Vals), Steps: s.Steps, Heads: slices.Clone(s.Heads)}
	return &running{State: own, rules: rules, fuel: fuel, table: table}
}

// goOn does ops, the last one first, till there is none, or one that can't be done.
func (r *running) goOn() api.Errno {
	e := api.OK
doing:
	for len(r.Ops) > 0 {
		op := r.Ops[len(r.Ops)-1]
		switch op.Kind {
		case api.OpHave:
			r.done(0)
			r.put(op.Value)
		case api.OpMake:
			if e = r.makeNode(op.Cell); e != api.OK {
				break doing
			}
		}
	}
	return e
}

// makeNode does an op OpMake. Beside an error it has changed nothing: the state is to be that ahead of the op.
func (r *running) makeNode(c api.Cell) api.Errno {
	node := r.node(c)
	if len(node) > api.MaxCells {
		return api.ErrBig
	}
	if norm, heads, ok := ask(r.table, node); ok {
		r.done(c.Arity)
		r.put(norm)
		r.join(heads)
		return api.OK
	}
	right, binds, fits := firstFit(r.rules, node)
	if fits && r.fuel <= 0 {
		return api.ErrFuel
	}
	r.done(c.Arity)
	r.join([]string{c.Name})
	if fits {
		r.fuel--
		r.Steps++
		r.Ops = append(r.Ops, toDo(right, binds)...)
	} else {
		r.put(node)
	}
	return api.OK
}

// node answers c with the last values behind it, which stay where they are.
func (r *running) node(c api.Cell) api.Term {
	kids := r.Vals[len(r.Vals)-c.Arity:]
	return slices.Concat(append([]api.Term{{c}}, kids...)...)
}

// done takes away the last op, and the values that it was made of.
func (r *running) done(arity int) {
	r.Ops = r.Ops[:len(r.Ops)-1]
	r.Vals = r.Vals[:len(r.Vals)-arity]
}

func (r *running) put(value api.Term) { r.Vals = append(r.Vals, value) }

// join puts each name where it belongs among the heads, which rise, unless it is there.
func (r *running) join(names []string) {
	for _, n := range names {
		if at, there := slices.BinarySearch(r.Heads, n); !there {
			r.Heads = slices.Insert(r.Heads, at, n)
		}
	}
}

// ask answers what the table tells of t. A table is anybody's: it is handed a term of its own, the one that it tells is taken over at once, and where it panics it knows nothing.
func ask(table Table, t api.Term) (norm api.Term, heads []string, ok bool) {
	if table == nil {
		return nil, nil, false
	}
	defer func() {
		if recover() != nil {
			norm, heads, ok = nil, nil, false
		}
	}()
	norm, heads, ok = table.Find(fresh.Term(t))
	return fresh.Term(norm), heads, ok
}

// firstFit answers the right side of the first rule whose left one fits t, and what its variables stand for there.
func firstFit(rules []api.Rule, t api.Term) (api.Term, []api.Bind, bool) {
	for _, r := range rules {
		// Left begins with a symbol, which tells most rules without a closer look.
		if r.Left[0] != t[0] {
			continue
		}
		if binds, fits, _ := match.Match(r.Left, t); fits {
			return r.Right, binds, true
		}
	}
	return nil, nil, false
}

// toDo answers the ops by which t comes to be, of its variables what they stand for. They are listed as they are to be done; the one that is done next stands last among ops, so the list is turned round.
func toDo(t api.Term, binds []api.Bind) []api.Op {
	ops, _ := inOrder(nil, t, 0, binds)
	slices.Reverse(ops)
	return ops
}

// inOrder lists the ops of the term at at behind ops, arguments ahead of what is above them, and answers the place behind it.
func inOrder(ops []api.Op, t api.Term, at int, binds []api.Bind) ([]api.Op, int) {
	end := at + 1
	for range t[at].Arity {
		ops, end = inOrder(ops, t, end, binds)
	}
	return append(ops, opOf(t[at], binds)), end
}

func opOf(c api.Cell, binds []api.Bind) api.Op {
	for _, b := range binds {
		if b.Name == c.Name {
			return api.Op{Kind: api.OpHave, Value: b.Value}
		}
	}
	return api.Op{Kind: api.OpMake, Cell: c}
}
