package term

import (
	"strings"

	"aumbry/api"
	"aumbry/name"
)

// reader reads a text from the left, and gives up at its first fault by a panic that Parse catches: so no call within another has to hand the fault on.
type reader struct {
	text  string
	at    int
	cells api.Term
}

// fault is what a reader gives up with.
type fault struct {
	at    int
	errno api.Errno
}

func (r *reader) giveUp(e api.Errno) {
	panic(fault{at: r.at, errno: e})
}

// readTerm reads a term, whose cells come behind those that are read. It calls itself no deeper than there may be cells.
func (r *reader) readTerm() {
	own := len(r.cells)
	r.readName()
	if !r.stands('(') {
		return
	}
	if name.Kind(r.cells[own].Name) == name.Variable {
		r.giveUp(api.ErrArity)
	}
	for !r.stands(')') {
		r.at++
		r.readTerm()
		r.cells[own].Arity++
		r.checkBehindArgument(r.cells[own].Arity)
	}
	r.at++
}

// readName reads the name of a cell, whose arity is told by what comes behind.
func (r *reader) readName() {
	end := r.at
	for end < len(r.text) && inName(r.text[end]) {
		end++
	}
	piece := r.text[r.at:end]
	switch {
	case piece == "":
		r.giveUp(api.ErrForm)
	case name.Kind(piece) == name.None:
		r.giveUp(api.ErrName)
	case len(r.cells) == api.MaxCells:
		r.giveUp(api.ErrBig)
	}
	r.cells = append(r.cells, api.Cell{Name: strings.Clone(piece)})
	r.at = end
}

// checkBehindArgument gives up if neither another argument nor the end of them may come behind so many.
func (r *reader) checkBehindArgument(arguments int) {
	switch {
	case r.stands(')'):
	case !r.stands(','):
		r.giveUp(api.ErrForm)
	case arguments == api.MaxArity:
		r.giveUp(api.ErrArity)
	}
}

func (r *reader) readEnd() {
	if r.at < len(r.text) {
		r.giveUp(api.ErrForm)
	}
}

func (r *reader) stands(c byte) bool {
	return r.at < len(r.text) && r.text[r.at] == c
}

// inName tells the bytes of which names are pieced together, also those that are none.
func inName(c byte) bool {
	return c >= 'a' && c <= 'z' || c >= 'A' && c <= 'Z' || c >= '0' && c <= '9'
}
