package space_test

import (
	"math"
	"math/rand"
	"slices"
	"strings"
	"testing"

	"aumbry/api"
	"aumbry/disk"
	"aumbry/journal"
	"aumbry/space"
)

// sizes are disks with and without a block that is left, and where the journal's list grows by a block.
var sizes = []int{64, 65, 66, 258, 259, 260, 261, 900, 2047, 2048}

// TestOpen: a disk must be there, and room for 1 to 1024 pages; then the disk is asked (P12.1).
func TestOpen(t *testing.T) {
	for _, down := range []bool{false, true} {
		for _, room := range []int{math.MinInt, -1024, -1, 0, 1, 2, 31, 1023, 1024, 1025, 2048, 1 << 32, 1<<32 + 1, math.MaxInt} {
			d, _ := disk.New(64)
			if down {
				off(d)
			}
			want := api.OK
			if down {
				want = api.ErrDown
			}
			if room < 1 || room > 1024 {
				want = api.ErrRange
			}
			s, e := space.Open(d, room)
			if e != want || (s == nil) != (want != api.OK) {
				t.Errorf("room %d, down %v: %v, %v, want %v", room, down, s != nil, e, want)
			}
			if want != api.OK && len(d.Log()) != 0 {
				t.Errorf("room %d, down %v: something was written", room, down)
			}
			if s, e := space.Open(nil, room); s != nil || e != api.ErrNil {
				t.Errorf("a nil disk, room %d: %v, %v", room, s != nil, e)
			}
		}
	}
}

// TestLaidOut: on a disk without a space the head page and the map are written as one group, and nothing else (P12.1).
func TestLaidOut(t *testing.T) {
	r := rand.New(rand.NewSource(1))
	for _, n := range sizes {
		for _, blocks := range [][]string{slices.Repeat([]string{zeros}, n), drawnBlocks(r, n)} {
			d := diskOf(t, blocks)
			s := opened(t, d, 1+r.Intn(1024))
			p := placeOf(n)
			if numbers := isGroup(t, blocks, d.Log()); !slices.Equal(numbers, []int{0, p.first}) {
				t.Fatalf("%d blocks: written %v", n, numbers)
			}
			empty := state{zeroHead, map[int]string{}}
			lies(t, d.Image(), empty)
			image := d.Image()
			for _, at := range p.users {
				if image[at] != blocks[at] {
					t.Fatalf("%d blocks: page %d has changed", n, at)
				}
			}
			if s.Free() != len(p.users) || !told(t, s).same(empty) {
				t.Fatalf("%d blocks: %d free, %v", n, s.Free(), told(t, s))
			}
		}
	}
}

// TestHeadPage: a space lies there if page 0 begins with aumbry and how many blocks there are; of what stands behind nothing is asked (P12.1).
func TestHeadPage(t *testing.T) {
	for _, c := range []struct {
		n     int
		begin string
		lies  bool
	}{
		{64, "aumbry\x00\x40", true},
		{65, "aumbry\x00\x41", true},
		{256, "aumbry\x01\x00", true},
		{900, "aumbry\x03\x84", true},
		{2048, "aumbry\x08\x00", true},
		{64, "aumbry\x00\x41", false},
		{65, "aumbry\x00\x40", false},
		{64, "aumbry\x40\x00", false},
		{64, "aumbry\x40", false},
		{64, "aumbry\x01\x40", false},
		{256, "aumbry\x00\x01", false},
		{256, "aumbry\x00\x00", false},
		{2048, "aumbry\x00\x08", false},
		{64, "aumbr\x00\x40", false},
		{64, "Aumbry\x00\x40", false},
		{64, "aumbrz\x00\x40", false},
		{64, " aumbry\x00\x40", false},
		{64, "\x00\x40aumbry", false},
		{64, "", false},
	} {
		for _, rest := range []string{"\x00", "x", "\xff"} {
			blocks := slices.Repeat([]string{zeros}, c.n)
			first, user := placeOf(c.n).first, placeOf(c.n).users[0]
			blocks[0] = c.begin + strings.Repeat(rest, 256-len(c.begin))
			blocks[first] = mapOf(c.n, []int{user})
			blocks[user] = filled('u')
			d := diskOf(t, blocks)
			s := opened(t, d, 3)
			want := state{zeroHead, map[int]string{}}
			if c.lies {
				want = state{blocks[0][8:], map[int]string{user: filled('u')}}
			}
			if got := told(t, s); !got.same(want) || (len(d.Log()) == 0) != c.lies {
				t.Errorf("%d blocks, %q: %v, want %v, %d writes", c.n, c.begin, got, want, len(d.Log()))
			}
			lies(t, d.Image(), want)
		}
	}
}

// TestOtherSize: the blocks of one disk on another that has more or fewer hold no space there.
func TestOtherSize(t *testing.T) {
	d, _ := disk.New(100)
	s := opened(t, d, 3)
	s.Alloc()
	want(t, s.Commit(), api.OK)
	for _, n := range []int{64, 99, 101} {
		blocks := append(d.Image(), zeros)[:n]
		if s := opened(t, diskOf(t, blocks), 3); s.Free() != len(placeOf(n).users) {
			t.Errorf("%d blocks: %d free", n, s.Free())
		}
	}
	if s := opened(t, diskOf(t, d.Image()), 3); s.Free() != len(placeOf(100).users)-1 {
		t.Errorf("100 blocks: %d free", s.Free())
	}
}

// TestOpenRecovers: a group that waits in the journal is brought to its end ahead of the look at page 0 (P12.1).
func TestOpenRecovers(t *testing.T) {
	d, _ := disk.New(64)
	group := []api.Page{{At: 0, Data: "aumbry\x00\x40" + strings.Repeat("h", 248)}, {At: 34, Data: mapOf(64, []int{35})}, {At: 35, Data: filled('u')}}
	d.Cut(5)
	want(t, journal.Commit(d, group), api.ErrDown)
	for _, cut := range []int{0, 1, 2, 3} {
		d.Restore()
		d.Cut(cut)
		if s, e := space.Open(d, 2); s != nil || e != api.ErrDown {
			t.Errorf("cut %d: %v, %v", cut, s != nil, e)
		}
	}
	d.Restore()
	s := opened(t, d, 2)
	if got := told(t, s); !got.same(state{strings.Repeat("h", 248), map[int]string{35: filled('u')}}) {
		t.Errorf("%v", got)
	}
	if d.Image()[1] != zeros {
		t.Error("the group waits still")
	}
}

// TestOpenAgain: a space that lies there is opened without a write, as often as wanted, with any room.
func TestOpenAgain(t *testing.T) {
	d, _ := disk.New(64)
	x := begin(t, d, 2)
	x.do(t, act{what: alloc})
	x.do(t, act{what: setHead, s: strings.Repeat("h", 248)})
	want(t, x.do(t, act{what: commit}), api.OK)
	writes := len(d.Log())
	for _, room := range []int{1, 2, 1024, 1} {
		if got := told(t, opened(t, d, room)); !got.same(x.m.now) || len(d.Log()) != writes {
			t.Errorf("room %d: %v, %d writes", room, got, len(d.Log())-writes)
		}
	}
}

// TestOpenDown: wherever the power fails while a space is laid out, no space is answered; once it is on there is an empty one (P12.1, P12.6).
func TestOpenDown(t *testing.T) {
	r := rand.New(rand.NewSource(2))
	for n := range 8 {
		for again := range 8 {
			d := diskOf(t, drawnBlocks(r, 64))
			d.Cut(n)
			if s, e := space.Open(d, 2); (s == nil) != (n < 7) || (e == api.OK) != (n >= 7) || e != api.OK && e != api.ErrDown {
				t.Fatalf("cut %d: %v, %v", n, s != nil, e)
			}
			d.Restore()
			d.Cut(again)
			space.Open(d, 2)
			d.Restore()
			for range 2 {
				if got := told(t, opened(t, d, 2)); !got.same(state{zeroHead, map[int]string{}}) {
					t.Fatalf("cut %d, %d: %v", n, again, got)
				}
			}
			lies(t, d.Image(), state{zeroHead, map[int]string{}})
		}
	}
}

// TestForeign: of a disk that somebody else wrote it is promised only that the calls end (P12.1, R1).
func TestForeign(t *testing.T) {
	r := rand.New(rand.NewSource(3))
	for range 300 {
		n := []int{64, 65, 2048}[r.Intn(3)]
		blocks := make([]string, n)
		for i := range blocks {
			blocks[i] = []string{zeros, filled('\xff'), drawn(r)}[r.Intn(3)]
		}
		blocks[0] = "aumbry" + string([]byte{byte(n / 256), byte(n % 256)}) + blocks[0][8:]
		d := diskOf(t, blocks)
		s := opened(t, d, 1+r.Intn(5))
		users := placeOf(n).users
		for range 40 {
			at := []int{users[0], users[len(users)-1], users[r.Intn(len(users))], r.Intn(n)}[r.Intn(4)]
			switch r.Intn(8) {
			case 0:
				s.Alloc()
			case 1:
				s.Release(at)
			case 2:
				s.Put(at, zeros)
			case 3:
				s.SetHead(zeroHead)
			case 4:
				s.Commit()
			case 5:
				s.Undo()
			case 6:
				d.Write(r.Intn(n), drawn(r))
			}
			s.Get(at)
			s.Head()
			s.Free()
			s.Taken()
		}
	}
}
