package journal_test

import (
	"math"
	"math/rand"
	"slices"
	"testing"

	"aumbry/api"
	"aumbry/disk"
	"aumbry/journal"
)

// TestRoom: every disk that may be, by the chapter's words; none that can't be (P10.1).
func TestRoom(t *testing.T) {
	for n := -300; n <= 5000; n++ {
		m, first := 0, 0
		if n >= 64 && n <= 2048 {
			p := placeOf(n)
			m, first = p.m, p.pages[1]
		}
		if journal.Pages(n) != m || journal.First(n) != first {
			t.Errorf("disk of %d: %d pages from %d on, want %d from %d on", n, journal.Pages(n), journal.First(n), m, first)
		}
	}
	for _, n := range []int{math.MinInt, math.MinInt + 64, -2048, -64, 1 << 16, 1<<16 + 64, 1 << 31, 1 << 32, 1<<32 + 64, math.MaxInt - 1, math.MaxInt} {
		if journal.Pages(n) != 0 || journal.First(n) != 0 {
			t.Errorf("disk of %d: %d pages from %d on", n, journal.Pages(n), journal.First(n))
		}
	}
}

// TestRoomAtHand: some rooms, reckoned by hand: where a disk has one block more than it needs, and where the list grows (P10.1).
func TestRoomAtHand(t *testing.T) {
	for _, c := range [][3]int{{64, 31, 34}, {65, 31, 34}, {66, 32, 35}, {257, 127, 130}, {258, 128, 131}, {259, 128, 131}, {260, 128, 131}, {261, 129, 133}, {2046, 1018, 1028}, {2047, 1019, 1029}, {2048, 1019, 1029}} {
		if m, first := journal.Pages(c[0]), journal.First(c[0]); m != c[1] || first != c[2] {
			t.Errorf("disk of %d: %d pages from %d on, want %v", c[0], m, first, c[1:])
		}
	}
}

// TestExample: the chapter's own, two pages on a disk of 2048 blocks, block by block (P10.2).
func TestExample(t *testing.T) {
	d, _ := disk.New(2048)
	a, b := filled('a'), filled('b')
	if e := journal.Commit(d, []api.Page{{At: 2046, Data: a}, {At: 0, Data: b}}); e != api.OK {
		t.Fatal(e)
	}
	list := "\x07\xfe\x00\x00" + zeros[4:]
	want := []api.Page{{At: 10, Data: a}, {At: 11, Data: b}, {At: 2, Data: list}, {At: 1, Data: headFor([]string{list}, []string{a, b})}, {At: 2046, Data: a}, {At: 0, Data: b}, {At: 1, Data: zeros}}
	if !slices.Equal(d.Log(), want) {
		t.Errorf("written: %v", numbersOf(d.Log()))
	}
}

// TestHeadBytes: the head of one page of bytes 0 on a disk of 64 blocks, its sum reckoned by hand (P10.2).
func TestHeadBytes(t *testing.T) {
	d, _ := disk.New(64)
	if e := journal.Commit(d, []api.Page{{At: 34, Data: zeros}}); e != api.OK {
		t.Fatal(e)
	}
	// Of the 512 bytes the second one alone isn't 0, but 34: a is 1 + 34 at the end; b is 512, and 34 for each of the 511 bytes from the second one on.
	sum := (512+34*511)<<16 | 35
	head := "jrnl\x00\x01" + string([]byte{byte(sum >> 24), byte(sum >> 16), byte(sum >> 8), byte(sum)}) + zeros[10:]
	want := []api.Page{{At: 3, Data: zeros}, {At: 2, Data: "\x00\x22" + zeros[2:]}, {At: 1, Data: head}, {At: 34, Data: zeros}, {At: 1, Data: zeros}}
	if !slices.Equal(d.Log(), want) {
		t.Errorf("written: %q at %v", datasOf(d.Log()), numbersOf(d.Log()))
	}
}

// TestCommit: the blocks that are written, in order, of groups of any length on disks of any size (P10.2).
func TestCommit(t *testing.T) {
	r := rand.New(rand.NewSource(1))
	for _, n := range sizes {
		m := placeOf(n).m
		for _, count := range []int{0, 1, 2, 3, 127, 128, 129, 255, 256, 257, 1016, m - 1, m} {
			if count > m {
				continue
			}
			first := drawnBlocks(r, n)
			d := diskOf(t, first)
			l := drawnGroup(r, n, count)
			want := commitWrites(n, l)
			if e := journal.Commit(d, l); e != api.OK {
				t.Fatalf("%d pages on %d blocks: %v", count, n, e)
			}
			if !slices.Equal(d.Log(), want) {
				t.Errorf("%d pages on %d blocks: written %v, want %v", count, n, numbersOf(d.Log()), numbersOf(want))
			}
			if !slices.Equal(d.Image(), done(first, want)) {
				t.Errorf("%d pages on %d blocks: the image is another", count, n)
			}
		}
	}
}

// TestCommitsInARow: a Commit leaves nothing behind that a later one, of another length, could tell (P10.2).
func TestCommitsInARow(t *testing.T) {
	r := rand.New(rand.NewSource(2))
	for _, n := range []int{64, 65, 300, 900} {
		d := diskOf(t, drawnBlocks(r, n))
		var want []api.Page
		for range 40 {
			l := drawnGroup(r, n, r.Intn(placeOf(n).m+1))
			if e := journal.Commit(d, l); e != api.OK {
				t.Fatal(e)
			}
			want = append(want, commitWrites(n, l)...)
			if count, e := journal.Recover(d); count != 0 || e != api.OK {
				t.Fatalf("Recover behind a Commit: %d, %v", count, e)
			}
		}
		if !slices.Equal(d.Log(), want) {
			t.Errorf("disk of %d: the log is another", n)
		}
	}
}

// TestPageNumbers: each number of a page is taken, alone, and none else is (P10.2).
func TestPageNumbers(t *testing.T) {
	for _, n := range sizes {
		pages := placeOf(n).pages
		d, _ := disk.New(n)
		taken := 0
		for at := -3; at < n+3; at++ {
			want := api.OK
			if !slices.Contains(pages, at) {
				want = api.ErrRange
			}
			if want == api.OK && taken > 60 && at < pages[len(pages)-3] {
				continue
			}
			if e := journal.Commit(d, []api.Page{{At: at, Data: filled('x')}}); e != want {
				t.Errorf("disk of %d, page %d: %v, want %v", n, at, e, want)
			}
			if want == api.OK {
				taken++
			}
		}
		if len(d.Log()) != 5*taken {
			t.Errorf("disk of %d: %d writes of %d pages", n, len(d.Log()), taken)
		}
		for _, at := range []int{math.MinInt, math.MinInt + n - 1, -n, -1, 1 << 16, 1<<16 + 34, 1 << 32, 1<<32 + 34, math.MaxInt - 1, math.MaxInt} {
			if e := journal.Commit(d, []api.Page{{At: at, Data: filled('x')}}); e != api.ErrRange {
				t.Errorf("disk of %d, page %d: %v", n, at, e)
			}
		}
	}
}

// wrongs are groups of a disk of 64 blocks, which has room for 31 pages, and what is answered: of several errors the first of the sentence, page by page.
func wrongs() map[string]struct {
	l []api.Page
	e api.Errno
} {
	x, y := api.Page{At: 40, Data: filled('x')}, api.Page{At: 63, Data: filled('y')}
	far, short, both := api.Page{At: 64, Data: zeros}, api.Page{At: 41, Data: "x"}, api.Page{At: 1, Data: "x"}
	xShort, xLong := api.Page{At: 40, Data: zeros[1:]}, api.Page{At: 40, Data: zeros + "x"}
	full := []api.Page{}
	for _, at := range placeOf(64).pages {
		full = append(full, api.Page{At: at, Data: zeros})
	}
	with := func(i int, p api.Page) []api.Page {
		l := slices.Clone(full)
		l[i] = p
		return l
	}
	return map[string]struct {
		l []api.Page
		e api.Errno
	}{
		"no page's number":                        {[]api.Page{far}, api.ErrRange},
		"the head":                                {[]api.Page{{At: 1, Data: zeros}}, api.ErrRange},
		"the list":                                {[]api.Page{{At: 2, Data: zeros}}, api.ErrRange},
		"the first copy":                          {[]api.Page{{At: 3, Data: zeros}}, api.ErrRange},
		"the last copy":                           {[]api.Page{{At: 33, Data: zeros}}, api.ErrRange},
		"below 0":                                 {[]api.Page{{At: -1, Data: zeros}}, api.ErrRange},
		"no number, behind others":                {[]api.Page{x, y, far}, api.ErrRange},
		"no number, and short":                    {[]api.Page{both}, api.ErrRange},
		"no number twice":                         {[]api.Page{far, far}, api.ErrRange},
		"short":                                   {[]api.Page{short}, api.ErrForm},
		"no bytes":                                {[]api.Page{{At: 0}}, api.ErrForm},
		"a byte missing":                          {[]api.Page{y, xShort}, api.ErrForm},
		"a byte more":                             {[]api.Page{y, xLong}, api.ErrForm},
		"two blocks":                              {[]api.Page{y, {At: 34, Data: zeros + zeros}}, api.ErrForm},
		"long by 65536":                           {[]api.Page{{At: 34, Data: string(make([]byte, 65536+256))}}, api.ErrForm},
		"long and short make up for nothing":      {[]api.Page{{At: 34, Data: zeros + "x"}, {At: 35, Data: zeros[1:]}}, api.ErrForm},
		"short, and stood ahead":                  {[]api.Page{x, xShort}, api.ErrForm},
		"twice":                                   {[]api.Page{x, x}, api.ErrTwice},
		"twice, other bytes":                      {[]api.Page{x, y, {At: 40, Data: zeros}}, api.ErrTwice},
		"page 0 twice":                            {[]api.Page{{At: 0, Data: zeros}, x, {At: 0, Data: zeros}}, api.ErrTwice},
		"three times":                             {[]api.Page{x, x, x}, api.ErrTwice},
		"the range first, page by page":           {[]api.Page{far, short, x, x}, api.ErrRange},
		"the form first, page by page":            {[]api.Page{short, far}, api.ErrForm},
		"the form ahead of twice":                 {[]api.Page{x, short, x}, api.ErrForm},
		"twice first, page by page":               {[]api.Page{x, x, far, short}, api.ErrTwice},
		"a full group whose last page is short":   {with(30, api.Page{At: 63, Data: "x"}), api.ErrForm},
		"a full group with its first page twice":  {with(30, full[0]), api.ErrTwice},
		"a full group with its 30th page twice":   {with(30, full[29]), api.ErrTwice},
		"a full group whose last page is far":     {with(30, far), api.ErrRange},
		"a page more than there are":              {append(slices.Clone(full), full[0]), api.ErrMany},
		"a page more, and all of them none":       {make([]api.Page, 32), api.ErrMany},
		"many more":                               {make([]api.Page, 5000), api.ErrMany},
		"a page more, and the first one is wrong": {append([]api.Page{both}, full...), api.ErrMany},
	}
}

// TestWrongs: what is no group is refused, and nothing is written (P10.2, R2).
func TestWrongs(t *testing.T) {
	for what, c := range wrongs() {
		d, _ := disk.New(64)
		d.Cut(7)
		for range 2 {
			if e := journal.Commit(d, c.l); e != c.e || len(d.Log()) != 0 || d.Down() {
				t.Errorf("%s: %v, want %v; %d writes", what, e, c.e, len(d.Log()))
			}
		}
		// As many writes are left as were told: a right group of two pages needs just these.
		if e := journal.Commit(d, []api.Page{{At: 34, Data: zeros}, {At: 35, Data: zeros}}); e != api.OK || len(d.Log()) != 7 {
			t.Errorf("behind %s: %v, %d writes", what, e, len(d.Log()))
		}
		// With the power off the errors of the arguments come first, too.
		d.Cut(0)
		d.Write(0, zeros)
		if e := journal.Commit(d, c.l); e != c.e || !d.Down() {
			t.Errorf("%s, with the power off: %v, want %v", what, e, c.e)
		}
		// A nil disk comes first of all.
		if e := journal.Commit(nil, c.l); e != api.ErrNil {
			t.Errorf("%s, on a nil disk: %v", what, e)
		}
	}
}

// TestMany: there may be as many pages as the disk has room for, of each size (P10.2).
func TestMany(t *testing.T) {
	for _, n := range sizes {
		d, _ := disk.New(n)
		var l []api.Page
		for _, at := range placeOf(n).pages {
			l = append(l, api.Page{At: at, Data: filled('x')})
		}
		if e := journal.Commit(d, append(slices.Clone(l), l[0])); e != api.ErrMany || len(d.Log()) != 0 {
			t.Errorf("disk of %d, a page too many: %v", n, e)
		}
		if e := journal.Commit(d, l); e != api.OK || len(d.Log()) != len(commitWrites(n, l)) {
			t.Errorf("disk of %d, %d pages: %v", n, len(l), e)
		}
	}
}

// TestNothing: without pages nothing is done, whatever the power (P10.2, R3).
func TestNothing(t *testing.T) {
	r := rand.New(rand.NewSource(3))
	for _, l := range [][]api.Page{nil, {}, make([]api.Page, 0, 9)} {
		first := drawnBlocks(r, 64)
		// A group that waits goes on waiting.
		first = done(first, commitWrites(64, drawnGroup(r, 64, 3))[:headWrite(3)+1])
		d := diskOf(t, first)
		for range 3 {
			if e := journal.Commit(d, l); e != api.OK || len(d.Log()) != 0 || !slices.Equal(d.Image(), first) {
				t.Errorf("Commit of nothing: %v, %d writes", e, len(d.Log()))
			}
			d.Cut(0)
		}
		if d.Down() {
			t.Error("it was written")
		}
		d.Write(0, zeros)
		if e := journal.Commit(d, l); e != api.OK || !d.Down() || len(d.Log()) != 0 {
			t.Errorf("Commit of nothing, with the power off: %v", e)
		}
	}
}

// TestNil: a nil disk is refused, whatever else (P10.2, P10.3, R2).
func TestNil(t *testing.T) {
	for _, l := range [][]api.Page{nil, {}, {{At: 40, Data: zeros}}, {{At: -1}}, make([]api.Page, 3000)} {
		if e := journal.Commit(nil, l); e != api.ErrNil {
			t.Errorf("Commit of %d pages: %v", len(l), e)
		}
	}
	if n, e := journal.Recover(nil); n != 0 || e != api.ErrNil {
		t.Errorf("Recover: %d, %v", n, e)
	}
}

// TestOff: with the power off the disk's error is the answer, and nothing is written (P10.2, P10.3, R6).
func TestOff(t *testing.T) {
	r := rand.New(rand.NewSource(4))
	l := drawnGroup(r, 64, 3)
	for _, ahead := range []int{0, headWrite(3) + 1, headWrite(3) + 2} {
		first := done(drawnBlocks(r, 64), commitWrites(64, l)[:ahead])
		d := diskOf(t, first)
		d.Cut(0)
		d.Write(0, zeros)
		for range 2 {
			if e := journal.Commit(d, l); e != api.ErrDown {
				t.Errorf("Commit: %v", e)
			}
			if n, e := journal.Recover(d); n != 0 || e != api.ErrDown {
				t.Errorf("Recover: %d, %v", n, e)
			}
		}
		if len(d.Log()) != 0 || !d.Down() || !slices.Equal(d.Image(), first) {
			t.Error("something has changed")
		}
	}
}
