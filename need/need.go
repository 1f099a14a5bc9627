// Package need lets a call give up deep inside at an error, which is caught at its face: no call between has to hand it on.
package need

import "aumbry/api"

// OK gives up at an error.
func OK(e api.Errno) {
	if e != api.OK {
		panic(e)
	}
}

// Of answers what stands beside an error's number, and gives up at an error.
func Of[T any](x T, e api.Errno) T {
	OK(e)
	return x
}

// Caught answers the error at which do gave up; OK, if it didn't. What do was to set stays as it was where it gave up.
func Caught(do func()) (e api.Errno) {
	defer func() {
		switch met := recover().(type) {
		case nil:
		case api.Errno:
			e = met
		default:
			// No page that the program wrote leads here.
			e = api.ErrForm
		}
	}()
	do()
	return api.OK
}
