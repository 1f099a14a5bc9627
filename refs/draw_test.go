package refs_test

import (
	"fmt"
	"math/rand"
	"slices"
	"strings"
	"sync"
	"testing"

	"aumbry/api"
	"aumbry/slot"
)

// drawn is the text of a term with so many cells or somewhat less, over so many names: with few of them most parts are met again.
func drawn(r *rand.Rand, cells, names int) string {
	if cells <= 1 {
		if r.Intn(5) == 0 {
			return fmt.Sprintf("X%d", r.Intn(names))
		}
		return fmt.Sprintf("a%d", r.Intn(names))
	}
	var parts []string
	rest := cells - 1
	for n := 1 + r.Intn(min(4, rest)); n > 0; n-- {
		own := max(1, rest/n)
		parts = append(parts, drawn(r, own, names))
		rest -= own
	}
	return fmt.Sprintf("f%d(%s)", r.Intn(names), strings.Join(parts, ","))
}

// tower is a name over itself, so many cells high.
func tower(cells int, name, leaf string) string {
	return strings.Repeat(name+"(", cells-1) + leaf + strings.Repeat(")", cells-1)
}

// wide is the text of a term of 64 cells, no two of whose parts are alike.
func wide(i int) string {
	var parts []string
	for j := range 3 {
		var below []string
		for k := range 4 {
			below = append(below, fmt.Sprintf("g(n%dx%d,n%dy%d,n%dz%d,n%dw%d)", j*4+k, i, j*4+k, i, j*4+k, i, j*4+k, i))
		}
		parts = append(parts, "h("+strings.Join(below, ",")+")")
	}
	return "k(" + strings.Join(parts, ",") + ")"
}

// twins are pairs of names of which those without arguments have one hash.
var twins = sync.OnceValue(func() [][2]string {
	first := map[uint32]string{}
	var l [][2]string
	for i := range 1 << 18 {
		name := fmt.Sprintf("t%x", i)
		h, e := slot.Hash(name, nil)
		if e != api.OK {
			panic(e)
		}
		if other, is := first[h]; is {
			l = append(l, [2]string{other, name})
		}
		first[h] = name
	}
	return l
})

// narrow are names of which those without arguments have hashes that begin with these bits.
func narrow(bits string, n int) []string {
	var l []string
	for i := 0; len(l) < n; i++ {
		name := fmt.Sprintf("m%d", i)
		h, e := slot.Hash(name, nil)
		if e != api.OK {
			panic(e)
		}
		if strings.HasPrefix(fmt.Sprintf("%032b", h), bits) {
			l = append(l, name)
		}
	}
	return l
}

// TestDrawn: what is drawn is what the other tests need.
func TestDrawn(t *testing.T) {
	r := rand.New(rand.NewSource(1))
	for n := range 64 {
		if x := read(t, drawn(r, n, 3)); len(x) > max(1, n) || len(x) < n/2 {
			t.Errorf("%d cells for %d", len(x), n)
		}
	}
	if len(read(t, tower(64, "s", "a"))) != 64 || len(read(t, wide(7))) != 64 {
		t.Error("not as many cells as are told")
	}
	l := twins()
	if len(l) < 4 {
		t.Errorf("%d twins only", len(l))
	}
	for _, two := range l {
		h, _ := slot.Hash(two[0], nil)
		if k, _ := slot.Hash(two[1], nil); h != k || two[0] == two[1] {
			t.Errorf("%v are no twins", two)
		}
	}
	if names := narrow("0110", 9); len(names) != 9 || !slices.IsSortedFunc(names, func(a, b string) int { return len(a) - len(b) }) {
		t.Error("not as narrow as is told")
	}
}
