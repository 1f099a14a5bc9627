// Package num is layer 1: numbers as bytes, the highest byte first. See shared/doc/01-num.md.
package num

import (
	"strings"

	"aumbry/api"
)

const (
	maxWidth  = 8
	maxPadded = 65536
)

// Put answers the width bytes of n, the highest first.
func Put(n uint64, width int) (string, api.Errno) {
	if !isWidth(width) || !fits(n, width) {
		return "", api.ErrRange
	}
	b := make([]byte, width)
	for i := range width {
		b[width-1-i] = byte(n >> (8 * i))
	}
	return string(b), api.OK
}

// Get answers the number that the width bytes of s from at on are.
func Get(s string, at, width int) (uint64, api.Errno) {
	if !isWidth(width) {
		return 0, api.ErrRange
	}
	if !stands(s, at, width) {
		return 0, api.ErrForm
	}
	var n uint64
	for i := range width {
		n = n<<8 | uint64(s[at+i])
	}
	return n, api.OK
}

// Set answers s, in which the width bytes from at on are n's.
func Set(s string, at int, n uint64, width int) (string, api.Errno) {
	b, e := Put(n, width)
	if e != api.OK {
		return "", e
	}
	if !stands(s, at, width) {
		return "", api.ErrForm
	}
	return s[:at] + b + s[at+width:], api.OK
}

// Pad answers s with bytes 0 behind it, n bytes in all.
func Pad(s string, n int) (string, api.Errno) {
	if n < 0 || n > maxPadded {
		return "", api.ErrRange
	}
	if len(s) > n {
		return "", api.ErrLong
	}
	b := make([]byte, n)
	copy(b, s)
	return string(b), api.OK
}

// Trim answers s without the bytes 0 at its end.
func Trim(s string) string {
	end := 0
	for i := range len(s) {
		if s[i] != 0 {
			end = i + 1
		}
	}
	// A piece of s would share its memory (R4), and keep all of it alive.
	return strings.Clone(s[:end])
}

func isWidth(width int) bool {
	return width >= 1 && width <= maxWidth
}

// fits is asked of a width alone: a shift by fewer than 0 bits would panic. At width 8 the shift leaves 0, so that every number fits.
func fits(n uint64, width int) bool {
	return n>>(8*width) == 0
}

// stands holds width against what is left, since at+width may wrap round.
func stands(s string, at, width int) bool {
	return at >= 0 && len(s)-at >= width
}
