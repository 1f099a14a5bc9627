package space

import (
	"errors"
	"strconv"

	"aumbry/api"
)

// fault is an error of the layers below with the page that it concerns, the first one of a group. It is handed on up to the face, where its number alone is answered.
type fault struct {
	page int
	met  error
}

func (f fault) Error() string { return "page " + strconv.Itoa(f.page) + ": " + f.met.Error() }

func (f fault) Unwrap() error { return f.met }

// faultAt answers what was met at a page; nil for OK, which is a number like the others, but no error.
func faultAt(page int, e api.Errno) error {
	if e == api.OK {
		return nil
	}
	return fault{page: page, met: e}
}

// number answers what the face tells of an error, whatever wraps it; OK, if there is none.
func number(err error) api.Errno {
	e := api.OK
	if errors.As(err, &e) {
		return e
	}
	return api.OK
}
