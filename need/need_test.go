package need_test

import (
	"testing"

	"aumbry/api"
	"aumbry/need"
)

func answer(n int, e api.Errno) (int, api.Errno) { return n, e }

// TestCaught: the first error is answered, what stands behind it isn't done, and what was done ahead of it stays.
func TestCaught(t *testing.T) {
	for e := api.OK; e <= api.ErrRule; e++ {
		for _, do := range []func(){
			func() { need.OK(e) },
			func() { need.Of(answer(2, e)) },
			func() { need.Of("", e) },
			func() { need.OK(need.Caught(func() { need.OK(e) })) },
		} {
			done := 0
			got := need.Caught(func() {
				need.OK(api.OK)
				done++
				do()
				done++
				if e == api.OK {
					return
				}
				need.OK(api.ErrNil)
			})
			want := 1
			if e == api.OK {
				want = 2
			}
			if got != e || done != want {
				t.Errorf("%v is caught as %v, %d of 2 done", e, got, done)
			}
		}
	}
}

// TestOf: what stands beside OK is answered; what was to be set at an error stays as it was.
func TestOf(t *testing.T) {
	n := 7
	if e := need.Caught(func() { n = need.Of(answer(2, api.OK)) }); n != 2 || e != api.OK {
		t.Errorf("%d, %v", n, e)
	}
	if e := need.Caught(func() { n = need.Of(answer(3, api.ErrDown)) }); n != 2 || e != api.ErrDown {
		t.Errorf("%d, %v", n, e)
	}
}

// TestOtherPanics: nothing that panics gets through.
func TestOtherPanics(t *testing.T) {
	var l []int
	for i, do := range []func(){
		func() { l[len(l)]++ },
		func() { panic("a text") },
		func() { panic(error(nil)) },
		func() { panic(3) },
	} {
		if e := need.Caught(do); e != api.ErrForm {
			t.Errorf("panic %d is caught as %v", i, e)
		}
	}
}
