package nodes_test

import (
	"fmt"
	"math/rand"
	"strings"
	"sync"
	"testing"

	"aumbry/api"
	"aumbry/mix"
)

// Contents are drawn so that their hashes are spread, or begin with the same bits, or are the same.

// spread are contents of all kinds, over any addresses.
func spread(r *rand.Rand, n int) []content {
	var l []content
	for i := range n {
		c := content{name: fmt.Sprintf("n%d", i)}
		if i%7 == 0 {
			c.name = fmt.Sprintf("X%d", i)
		} else {
			for range r.Intn(5) {
				c.kids = append(c.kids, api.Addr(r.Uint32())<<16+api.Addr(1+r.Intn(65535)))
			}
		}
		l = append(l, c)
	}
	return l
}

// narrow are contents whose hashes begin with these bits.
func narrow(bits string, n int) []content {
	var l []content
	for i := 0; len(l) < n; i++ {
		c := content{name: fmt.Sprintf("m%d", i)}
		if strings.HasPrefix(bitsOf(c.hash()), bits) {
			l = append(l, c)
		}
	}
	return l
}

// The first part of mix.Hash takes byte by byte, and each byte can be taken back.
const (
	times = 16777619
	back  = 899433627 // times back is 1 modulo 2^32
)

// six are the bytes of an address.
func six(a api.Addr) [6]byte {
	return [6]byte{byte(a >> 40), byte(a >> 32), byte(a >> 24), byte(a >> 16), byte(a >> 8), byte(a)}
}

// twins are contents of one hash: a name over two kids, of which the first ones lead on to where the second ones lead back.
var twins = sync.OnceValue(func() []content {
	r := rand.New(rand.NewSource(99))
	kid := func() api.Addr { return api.Addr(r.Uint32())<<16 + api.Addr(1+r.Intn(65535)) }
	from := uint32(2166136261)
	for _, b := range []byte("s\x00\x00\x00\x00\x00\x00\x00\x02") {
		from = (from ^ uint32(b)) * times
	}
	firsts := map[uint32]api.Addr{}
	for range 1 << 19 {
		a, h := kid(), from
		for _, b := range six(a) {
			h = (h ^ uint32(b)) * times
		}
		firsts[h] = a
	}
	var l []content
	for range 1 << 19 {
		a, h := kid(), uint32(123456789)
		s := six(a)
		for i := 5; i >= 0; i-- {
			h = h*back ^ uint32(s[i])
		}
		if first, is := firsts[h]; is {
			l = append(l, content{"s", []api.Addr{first, a}})
		}
	}
	return l
})

// TestDrawn: what is drawn is what the other tests need.
func TestDrawn(t *testing.T) {
	l := twins()
	if len(l) < 30 {
		t.Errorf("%d twins only", len(l))
	}
	for _, c := range l {
		if c.hash() != l[0].hash() {
			t.Errorf("%v and %v are no twins", c, l[0])
		}
	}
	if h := mix.Hash("n1\x00\x00\x00\x00\x00\x00\x00"); (content{name: "n1"}).hash() != h {
		t.Error("a content's hash isn't that of its bytes")
	}
	if l := narrow("01101", 12); len(l) != 12 || !strings.HasPrefix(bitsOf(l[11].hash()), "01101") {
		t.Error("not as narrow as is told")
	}
}
