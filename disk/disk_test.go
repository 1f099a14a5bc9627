package disk_test

import (
	"math"
	"math/rand"
	"slices"
	"testing"

	"aumbry/api"
	"aumbry/disk"
)

// TestSizes: a disk has 64 to 2048 blocks, made of nothing or of blocks that are handed in (P9.1).
func TestSizes(t *testing.T) {
	if api.BlockSize != 256 || api.LeastBlocks != 64 || api.MaxBlocks != 2048 {
		t.Fatal("the limits are others")
	}
	for _, n := range []int{math.MinInt, math.MinInt + 1, -2048, -64, -1, 0, 1, 62, 63, 64, 65, 100, 900, 2047, 2048, 2049, 4096, 65536, 1 << 32, 1<<32 + 64, math.MaxInt - 1, math.MaxInt} {
		want := api.OK
		if n < 64 || n > 2048 {
			want = api.ErrRange
		}
		for range 2 {
			if d, e := disk.New(n); e != want || (d == nil) != (want != api.OK) || want == api.OK && d.Len() != n {
				t.Errorf("New(%d) = %v, %v", n, d != nil, e)
			}
		}
		if n < -1 || n > 65536 {
			continue
		}
		// Blocks of the right form, and of another: too few or too many comes first.
		for _, s := range []string{block('x'), "", "x"} {
			wantOf := want
			if want == api.OK && len(s) != 256 {
				wantOf = api.ErrForm
			}
			if d, e := disk.Of(slices.Repeat([]string{s}, max(n, 0))); e != wantOf || (d == nil) != (wantOf != api.OK) || wantOf == api.OK && d.Len() != n {
				t.Errorf("Of %d blocks of %d bytes = %v, %v, want %v", n, len(s), d != nil, e, wantOf)
			}
		}
	}
	if d, e := disk.Of(nil); d != nil || e != api.ErrRange {
		t.Errorf("Of(nil) = %v, %v", d, e)
	}
}

// TestNew: every block of a new disk has bytes 0; the power is on, no cut is told, nothing is in the log (P9.1).
func TestNew(t *testing.T) {
	for _, n := range []int{64, 65, 255, 2048} {
		d, e := disk.New(n)
		if e != api.OK {
			t.Fatal(n, e)
		}
		x := pair{d, past{first: slices.Repeat([]string{zeros}, n)}}
		x.hold(t)
		for at := range n {
			x.do(t, act{what: read, at: at})
		}
		for i := range 3 * n {
			if e := d.Write(i%n, block(byte(i))); e != api.OK {
				t.Fatalf("write %d of a new disk: %v", i, e)
			}
		}
		if d.Down() || len(d.Log()) != 3*n {
			t.Errorf("disk of %d blocks: down %v, %d writes", n, d.Down(), len(d.Log()))
		}
	}
}

// TestOf: a disk of blocks has just these, whatever their bytes; the power is on, no cut is told, nothing is in the log (P9.1).
func TestOf(t *testing.T) {
	r := rand.New(rand.NewSource(9))
	for _, n := range []int{64, 65, 300, 2048} {
		x := begin(t, drawnBlocks(r, n))
		x.hold(t)
		for at := range n {
			x.do(t, act{what: read, at: at})
		}
		for range 300 {
			x.do(t, act{what: write, at: r.Intn(n), s: drawn(r)})
		}
		x.hold(t)
	}
}

// TestOfForm: one block of another length is enough, wherever it stands (P9.1).
func TestOfForm(t *testing.T) {
	for _, n := range []int{63, 64, 65, 2048, 2049} {
		for _, at := range []int{0, 1, n / 2, n - 2, n - 1} {
			for _, size := range []int{0, 1, 255, 256, 257, 511, 512, 65536} {
				l := slices.Repeat([]string{block('x')}, n)
				l[at] = string(make([]byte, size))
				want := api.OK
				if size != 256 {
					want = api.ErrForm
				}
				if n == 63 || n == 2049 {
					want = api.ErrRange
				}
				if d, e := disk.Of(l); e != want || (d == nil) != (want != api.OK) {
					t.Errorf("Of %d blocks, block %d of %d bytes: %v, %v", n, at, size, d != nil, e)
				}
			}
		}
	}
	// Two lengths that are wrong don't make up for each other.
	l := slices.Repeat([]string{block('x')}, 64)
	l[3], l[4] = l[3]+"x", l[4][1:]
	if d, e := disk.Of(l); d != nil || e != api.ErrForm {
		t.Errorf("Of 255 and 257 bytes = %v, %v", d != nil, e)
	}
}

// TestExample: the chapter's own.
func TestExample(t *testing.T) {
	if d, e := disk.New(63); d != nil || e != api.ErrRange {
		t.Errorf("New(63) = %v, %v", d != nil, e)
	}
	d, _ := disk.New(64)
	x := block('x')
	d.Cut(1)
	if a, b := d.Write(3, x), d.Write(4, x); a != api.OK || b != api.ErrDown || !d.Down() {
		t.Errorf("writes: %v, %v, down %v", a, b, d.Down())
	}
	if s, e := d.Read(3); s != "" || e != api.ErrDown {
		t.Errorf("Read(3) = %q, %v", s, e)
	}
	d.Restore()
	if s, e := d.Read(4); s != zeros || e != api.OK || d.Down() {
		t.Errorf("Read(4) = %q, %v, down %v", s, e, d.Down())
	}
	if s, e := d.Read(3); s != x || e != api.OK {
		t.Errorf("Read(3) = %q, %v", s, e)
	}
}

// TestNil: a nil disk refuses everything, whatever the arguments, and has nothing (P9.2, P9.4, R2).
func TestNil(t *testing.T) {
	var d *disk.Disk
	for range 2 {
		for _, at := range []int{math.MinInt, -1, 0, 1, 63, 64, math.MaxInt} {
			for _, s := range []string{"", "x", zeros, zeros + "x"} {
				if e := d.Write(at, s); e != api.ErrNil {
					t.Errorf("Write(%d) = %v", at, e)
				}
			}
			if s, e := d.Read(at); s != "" || e != api.ErrNil {
				t.Errorf("Read(%d) = %q, %v", at, s, e)
			}
			d.Cut(at)
			if d.Down() || d.Len() != 0 || len(d.Log()) != 0 || len(d.Image()) != 0 {
				t.Error("a nil disk has something, or is down")
			}
			d.Restore()
		}
	}
	if d != nil {
		t.Error("it is nil no more")
	}
}

// TestErrors: of several errors that apply the first one of the sentence is answered, and nothing has changed (P9.2, R2).
func TestErrors(t *testing.T) {
	r := rand.New(rand.NewSource(4))
	for _, n := range []int{64, 65, 2048} {
		for _, left := range []int{math.MinInt, -1, 0, 1, 2, math.MaxInt} {
			for _, down := range []bool{false, true} {
				x := begin(t, drawnBlocks(r, n))
				if down {
					x.do(t, act{what: cut})
					x.do(t, act{what: write, at: 5, s: drawn(r)})
				}
				x.do(t, act{what: cut, at: left})
				for _, at := range []int{math.MinInt, -n, -1, n, n + 1, 1 << 32, math.MaxInt} {
					x.do(t, act{what: read, at: at})
					for _, s := range []string{"", "x", zeros[1:], zeros, zeros + "x", zeros + zeros} {
						x.do(t, act{what: write, at: at, s: s})
					}
				}
				for _, at := range []int{0, 1, n - 1} {
					for _, size := range []int{0, 1, 2, 64, 128, 254, 255, 257, 258, 512, 65536, 65792} {
						x.do(t, act{what: write, at: at, s: string(make([]byte, size))})
					}
					x.do(t, act{what: read, at: at})
				}
				if len(x.d.Log()) != 0 || !slices.Equal(x.d.Image(), x.p.first) || x.d.Down() != down {
					t.Fatal("what was refused has changed something")
				}
				// Nothing of it counts as a write: just as many are left as were told.
				for at := range 3 {
					x.do(t, act{what: write, at: at, s: drawn(r)})
				}
				x.hold(t)
			}
		}
	}
}

// TestWrites: each block is kept whole, whatever its bytes, at its place alone; the last write holds (P9.2).
func TestWrites(t *testing.T) {
	r := rand.New(rand.NewSource(2))
	d, e := disk.New(2048)
	if e != api.OK {
		t.Fatal(e)
	}
	x := pair{d, past{first: slices.Repeat([]string{zeros}, 2048)}}
	var all []string
	for b := range 256 {
		all = append(all, block(byte(b)))
		one := []byte(zeros)
		one[b] = 1
		all = append(all, string(one))
		one = []byte(block(0xff))
		one[b] = byte(b)
		all = append(all, string(one))
	}
	want := slices.Clone(x.p.first)
	for i, s := range all {
		at := i * 37 % 2048
		if e := d.Write(at, s); e != api.OK {
			t.Fatal(at, e)
		}
		want[at] = s
		if got, e := d.Read(at); got != s || e != api.OK {
			t.Fatalf("block %d isn't %q", at, s)
		}
	}
	for range 2048 {
		at, s := r.Intn(2048), drawn(r)
		if e := d.Write(at, s); e != api.OK {
			t.Fatal(at, e)
		}
		want[at] = s
	}
	for at, s := range want {
		if got, e := d.Read(at); got != s || e != api.OK {
			t.Errorf("block %d is another", at)
		}
	}
	if !slices.Equal(d.Image(), want) {
		t.Error("the image is another")
	}
	x.replay(t)
}

// TestSameAgain: a write of what is there already is a write, in the log and ahead of a cut.
func TestSameAgain(t *testing.T) {
	x := begin(t, slices.Repeat([]string{block('x')}, 64))
	x.do(t, act{what: cut, at: 2})
	for range 4 {
		x.do(t, act{what: write, at: 7, s: block('x')})
	}
	x.hold(t)
	if len(x.d.Log()) != 2 {
		t.Errorf("%d writes in the log", len(x.d.Log()))
	}
}

// TestCut: just so many writes are done as were told, with reads and refused writes between them; then the power is off till it is restored, and the blocks are as they were (P9.2, P9.3).
func TestCut(t *testing.T) {
	r := rand.New(rand.NewSource(3))
	x := begin(t, drawnBlocks(r, 64))
	for n := range 40 {
		x.do(t, act{what: cut, at: n})
		for i := range n {
			x.do(t, act{what: read, at: i % 64})
			x.do(t, act{what: write, at: 64, s: zeros})
			x.do(t, act{what: write, at: i % 64, s: "x"})
			x.do(t, act{what: write, at: r.Intn(64), s: drawn(r)})
			if x.d.Down() {
				t.Fatalf("cut %d: down behind %d writes", n, i)
			}
		}
		before := x.d.Image()
		if e := x.d.Write(n, drawn(r)); e != api.ErrDown || !x.d.Down() {
			t.Fatalf("cut %d: the next write: %v, down %v", n, e, x.d.Down())
		}
		x.p.acts = append(x.p.acts, act{what: write, at: n, e: api.ErrDown})
		for at := range 64 {
			x.do(t, act{what: read, at: at})
			x.do(t, act{what: write, at: at, s: drawn(r)})
		}
		if !slices.Equal(x.d.Image(), before) {
			t.Fatalf("cut %d: something was written", n)
		}
		x.hold(t)
		x.do(t, act{what: restore})
		if !slices.Equal(x.d.Image(), before) || x.d.Down() {
			t.Fatalf("cut %d: behind Restore the blocks aren't as they were", n)
		}
		// No cut is told any more.
		for range 3 {
			x.do(t, act{what: write, at: r.Intn(64), s: drawn(r)})
		}
		x.hold(t)
	}
}

// TestCutAgain: the last word on a cut holds, and none turns the power on (P9.3).
func TestCutAgain(t *testing.T) {
	w := act{what: write, at: 9, s: block('w')}
	told := func(n int) act { return act{what: cut, at: n} }
	for name, c := range map[string]struct {
		acts []act
		done int
		down bool
	}{
		"none":                         {[]act{w, w, w}, 3, false},
		"0":                            {[]act{told(0)}, 0, false},
		"0, then a write":              {[]act{told(0), w}, 0, true},
		"1 behind 0":                   {[]act{told(0), told(1), w, w}, 1, true},
		"0 behind 3":                   {[]act{told(3), w, told(0), w}, 1, true},
		"3 behind 3":                   {[]act{told(3), w, w, told(3), w, w, w, w}, 5, true},
		"-1 behind 0":                  {[]act{told(0), told(-1), w, w}, 2, false},
		"the least behind 0":           {[]act{told(0), told(math.MinInt), w, w}, 2, false},
		"-1 behind 1":                  {[]act{told(1), w, told(-1), w, w}, 3, false},
		"-2 isn't -1 with one more":    {[]act{told(-2), w, w, w, w}, 4, false},
		"the greatest":                 {[]act{told(math.MaxInt), w, w, w}, 3, false},
		"-1 with the power off":        {[]act{told(0), w, told(-1), w}, 0, true},
		"5 with the power off":         {[]act{told(0), w, told(5), w}, 0, true},
		"5, restored":                  {[]act{told(0), w, told(5), {what: restore}, w, w, w, w, w, w, w}, 7, false},
		"0 with the power off, on":     {[]act{told(0), w, told(0), {what: restore}, w}, 1, false},
		"restored with the power on":   {[]act{told(1), {what: restore}, w, w}, 2, false},
		"restored between":             {[]act{told(2), w, {what: restore}, w, w, w}, 4, false},
		"restored twice":               {[]act{told(0), w, {what: restore}, {what: restore}, w}, 1, false},
		"told behind restored":         {[]act{told(0), w, {what: restore}, told(1), w, w}, 1, true},
		"restored, with nothing told":  {[]act{{what: restore}, w, w}, 2, false},
		"two cuts, each one restored":  {[]act{told(1), w, w, {what: restore}, told(1), w, w, {what: restore}, w}, 3, false},
		"reads don't count":            {[]act{told(1), {what: read, at: 3}, {what: read, at: 3}, w}, 1, false},
		"reads go on at no write left": {[]act{told(0), {what: read, at: 3}, {what: read, at: 64}}, 0, false},
		"no form, at no write left":    {[]act{told(0), {what: write, at: 3, s: "w"}, {what: write, at: 64, s: w.s}, {what: write, at: -1}}, 0, false},
	} {
		x := begin(t, slices.Repeat([]string{zeros}, 64))
		for _, a := range c.acts {
			x.do(t, a)
		}
		x.hold(t)
		if len(x.d.Log()) != c.done || x.d.Down() != c.down {
			t.Errorf("%s: %d writes, down %v", name, len(x.d.Log()), x.d.Down())
		}
	}
}

// TestEveryShort: all that a disk can go through in few calls, against the model (P9.2 to P9.5).
func TestEveryShort(t *testing.T) {
	calls := []act{
		{what: write, at: 0, s: block('a')}, {what: write, at: 63, s: block('b')}, {what: write, at: 64, s: block('c')}, {what: write, at: 0, s: "d"},
		{what: read, at: 0}, {what: cut, at: 0}, {what: cut, at: 1}, {what: cut, at: -1}, {what: restore},
	}
	first := make([]string, 64)
	for i := range first {
		first[i] = block(byte(i))
	}
	var through func(acts []act, more int)
	through = func(acts []act, more int) {
		x := begin(t, first)
		for _, a := range acts {
			x.do(t, a)
		}
		x.hold(t)
		if more == 0 {
			return
		}
		for _, a := range calls {
			through(append(slices.Clip(acts), a), more-1)
		}
	}
	through(nil, 4)
}

// TestLong: long drawn lives of disks, against the model; the whole is held against it now and then.
func TestLong(t *testing.T) {
	r := rand.New(rand.NewSource(5))
	falls := 0
	for range 60 {
		n := 64 + r.Intn(80)
		x := begin(t, drawnBlocks(r, n))
		for i := range 250 {
			a := act{what: write, at: r.Intn(n), s: drawn(r)}
			switch r.Intn(12) {
			case 0:
				a.s = a.s[r.Intn(256):]
			case 1:
				a.at = []int{-1, n, r.Int(), -r.Int()}[r.Intn(4)]
			case 2:
				a = act{what: cut, at: r.Intn(9) - 1}
			case 3, 4:
				a = act{what: read, at: r.Intn(n+2) - 1}
			case 5:
				a = act{what: restore}
			}
			was := x.d.Down()
			x.do(t, a)
			if x.d.Down() && !was {
				falls++
			}
			if i%50 == 49 {
				x.hold(t)
			}
		}
	}
	if falls < 200 {
		t.Errorf("the power failed only %d times", falls)
	}
}

// TestApart: what one disk goes through, another one doesn't, also one of the same blocks, or of its image.
func TestApart(t *testing.T) {
	first := slices.Repeat([]string{zeros}, 64)
	one, two := begin(t, first), begin(t, first)
	one.do(t, act{what: write, at: 1, s: block('1')})
	three := begin(t, one.d.Image())
	one.do(t, act{what: cut, at: 0})
	one.do(t, act{what: write, at: 2, s: block('2')})
	three.do(t, act{what: write, at: 3, s: block('3')})
	for _, x := range []*pair{one, two, three} {
		x.hold(t)
	}
	two.do(t, act{what: write, at: 1, s: block('4')})
	one.do(t, act{what: restore})
	for _, x := range []*pair{three, two, one} {
		x.do(t, act{what: read, at: 1})
		x.hold(t)
	}
}
