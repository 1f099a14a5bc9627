package journal_test

import (
	"encoding/binary"
	"math/rand"
	"slices"
	"testing"

	"aumbry/api"
	"aumbry/disk"
	"aumbry/journal"
)

// recovers holds Recover of a disk of these blocks against the model, twice: behind the first one nothing waits. It answers how many pages there were.
func recovers(t *testing.T, what string, image []string) int {
	t.Helper()
	want := recoverWrites(image)
	many := max(len(want)-1, 0)
	d := diskOf(t, image)
	if n, e := journal.Recover(d); n != many || e != api.OK {
		t.Errorf("%s: Recover = %d, %v, want %d", what, n, e, many)
	}
	if n, e := journal.Recover(d); n != 0 || e != api.OK {
		t.Errorf("%s: Recover once more = %d, %v", what, n, e)
	}
	if !slices.Equal(d.Log(), want) {
		t.Errorf("%s: written %v, want %v", what, numbersOf(d.Log()), numbersOf(want))
	}
	if !slices.Equal(d.Image(), done(image, want)) {
		t.Errorf("%s: the image is another", what)
	}
	return many
}

// waiting is a disk on which a group has been saved, and nothing of it is where it belongs.
func waiting(r *rand.Rand, n int, l []api.Page) []string {
	return done(drawnBlocks(r, n), commitWrites(n, l)[:headWrite(len(l))+1])
}

// TestRecover: groups of any length on disks of any size (P10.3).
func TestRecover(t *testing.T) {
	r := rand.New(rand.NewSource(5))
	for _, n := range sizes {
		m := placeOf(n).m
		for _, count := range []int{1, 2, 3, 127, 128, 129, 255, 256, 257, 1016, m - 1, m} {
			if count > m {
				continue
			}
			l := drawnGroup(r, n, count)
			image := waiting(r, n, l)
			if got := recovers(t, "a group", image); got != count {
				t.Errorf("%d pages on %d blocks: %d", count, n, got)
			}
			d := diskOf(t, image)
			journal.Recover(d)
			for _, p := range l {
				if s, e := d.Read(p.At); s != p.Data || e != api.OK {
					t.Errorf("%d pages on %d blocks: page %d isn't as it was to be", count, n, p.At)
				}
			}
		}
	}
}

// TestNothingWaits: of a new disk, of one with any bytes, and of one on which a group is done, nothing is written (P10.3).
func TestNothingWaits(t *testing.T) {
	r := rand.New(rand.NewSource(6))
	for _, n := range sizes {
		empty, _ := disk.New(n)
		drawnHead := drawnBlocks(r, n)
		drawnHead[1] = drawn(r)
		ready := done(drawnBlocks(r, n), commitWrites(n, drawnGroup(r, n, 9)))
		for what, image := range map[string][]string{"new": empty.Image(), "any bytes": drawnHead, "done": ready} {
			if recovers(t, what, image) != 0 {
				t.Errorf("disk of %d, %s: something waits", n, what)
			}
		}
	}
}

// TestSpoiltHead: each byte of the head counts, those behind the sum too (P10.3).
func TestSpoiltHead(t *testing.T) {
	r := rand.New(rand.NewSource(7))
	for _, count := range []int{1, 5, 31} {
		image := waiting(r, 64, drawnGroup(r, 64, count))
		head := image[1]
		for i := range 256 {
			for _, by := range []byte{1, 2, 128, 255} {
				b := []byte(head)
				b[i] ^= by
				image[1] = string(b)
				if recovers(t, "a spoilt head", image) != 0 {
					t.Fatalf("byte %d of the head doesn't count", i)
				}
			}
		}
		// A sum whose bytes stand in another order, and a text that only looks like jrnl.
		for _, s := range []string{
			head[:6] + string([]byte{head[9], head[8], head[7], head[6]}) + head[10:],
			"JRNL" + head[4:], "jrnl" + head[5:] + "\x00", "\x00" + head[:255], zeros[:4] + head[4:],
			head[:4] + string([]byte{head[5], head[4]}) + head[6:],
		} {
			image[1] = s
			if recovers(t, "another head", image) != 0 {
				t.Errorf("head %.10q is taken", s)
			}
		}
	}
}

// TestSpoiltBlocks: each block of the list that is used counts, and each copy that is told of, with all bytes; no other block does (P10.3).
func TestSpoiltBlocks(t *testing.T) {
	r := rand.New(rand.NewSource(8))
	for _, c := range [][2]int{{64, 3}, {64, 31}, {520, 127}, {520, 128}, {520, 129}, {520, 200}} {
		n, count := c[0], c[1]
		p := placeOf(n)
		image := waiting(r, n, drawnGroup(r, n, count))
		used := slices.Concat(p.list[:(count+127)/128], p.copies[:count])
		for at := range n {
			if at == 1 {
				continue
			}
			spoilt := slices.Clone(image)
			b := []byte(spoilt[at])
			b[[]int{0, 1, 100, 254, 255}[r.Intn(5)]] ^= 1 << r.Intn(8)
			spoilt[at] = string(b)
			want := count
			if slices.Contains(used, at) {
				want = 0
			}
			if got := recovers(t, "a spoilt block", spoilt); got != want {
				t.Errorf("disk of %d, %d pages, block %d spoilt: %d, want %d", n, count, at, got, want)
			}
		}
		// Every byte of the list's last block, those behind the numbers too.
		last := used[(count+127)/128-1]
		for i := range 256 {
			spoilt := slices.Clone(image)
			b := []byte(spoilt[last])
			b[i] ^= 1
			spoilt[last] = string(b)
			if recovers(t, "a spoilt list", spoilt) != 0 {
				t.Errorf("disk of %d, %d pages: byte %d of the list doesn't count", n, count, i)
			}
		}
		// Two copies, one for the other.
		if count > 1 {
			spoilt := slices.Clone(image)
			a, b := p.copies[0], p.copies[count-1]
			spoilt[a], spoilt[b] = filled('a'), filled('b')
			recovers(t, "other copies", spoilt)
			spoilt[1] = headFor(spoilt[2:2+(count+127)/128], spoilt[p.copies[0]:p.copies[0]+count])
			if recovers(t, "other copies with their head", spoilt) != count {
				t.Error("a group isn't taken")
			}
			spoilt[a], spoilt[b] = spoilt[b], spoilt[a]
			if recovers(t, "two copies turned round", spoilt) != 0 {
				t.Error("two copies may stand for each other")
			}
		}
	}
}

// written is a disk of n blocks whose list tells these numbers, and whose head is just for these copies, of which there may be none.
func written(r *rand.Rand, n int, numbers []int) []string {
	image := drawnBlocks(r, n)
	p := placeOf(n)
	list := listFor(numbers)
	copy(image[p.list[0]:], list)
	image[1] = headFor(list, image[p.copies[0]:p.copies[0]+len(numbers)])
	return image
}

// TestListTells: the numbers must be pages', none of them twice, wherever they stand, even if the sum is right (P10.3).
func TestListTells(t *testing.T) {
	r := rand.New(rand.NewSource(9))
	for _, n := range []int{64, 65, 66, 260, 261, 520, 2048} {
		p := placeOf(n)
		for _, count := range []int{1, 2, 30, 31, 128, 129, 200} {
			if count > p.m {
				continue
			}
			good := numbersOf(drawnGroup(r, n, count))
			if recovers(t, "right numbers", written(r, n, good)) != count {
				t.Fatalf("disk of %d, %d pages: not taken", n, count)
			}
			for _, i := range []int{0, 1, 29, 127, 128, count - 1} {
				if i >= count {
					continue
				}
				none := []int{1, 2, p.copies[0], p.copies[p.m-1], p.pages[p.m-1] + 1, n, n + 1, 2048, 32768, 65535}
				for _, at := range none {
					bad := slices.Clone(good)
					bad[i] = at
					if recovers(t, "no page's number", written(r, n, bad)) != 0 {
						t.Errorf("disk of %d, %d pages: %d as number %d is taken", n, count, at, i)
					}
				}
				for _, k := range []int{0, i - 1, i + 1, count - 1} {
					if k < 0 || k >= count || k == i {
						continue
					}
					bad := slices.Clone(good)
					bad[i] = bad[k]
					if recovers(t, "a number twice", written(r, n, bad)) != 0 {
						t.Errorf("disk of %d, %d pages: number %d is number %d, and taken", n, count, i, k)
					}
				}
			}
		}
	}
}

// TestListRest: behind the numbers the list has bytes 0 alone; another byte there, and it tells nothing, be the sum that of the blocks as they lie or that of the right list (P10.3).
func TestListRest(t *testing.T) {
	r := rand.New(rand.NewSource(18))
	for _, c := range [][2]int{{64, 1}, {64, 2}, {64, 31}, {520, 127}, {520, 128}, {520, 129}, {520, 200}, {2048, 255}, {2048, 257}, {2048, 1019}} {
		n, count := c[0], c[1]
		p := placeOf(n)
		good := written(r, n, numbersOf(drawnGroup(r, n, count)))
		if recovers(t, "bytes 0 behind the numbers", good) != count {
			t.Fatalf("disk of %d, %d pages: not taken", n, count)
		}
		last := p.list[(count+127)/128-1]
		for i := 2*count - 256*(last-2); i < 256; i++ {
			b := []byte(good[last])
			b[i] = []byte{1, 34, 128, 255}[r.Intn(4)]
			bad := slices.Clone(good)
			bad[last] = string(b)
			if recovers(t, "the sum of the right list", bad) != 0 {
				t.Errorf("disk of %d, %d pages: byte %d of block %d doesn't count", n, count, i, last)
			}
			bad[1] = headFor(bad[2:last+1], bad[p.copies[0]:p.copies[0]+count])
			if recovers(t, "the sum of the list as it lies", bad) != 0 {
				t.Errorf("disk of %d, %d pages: byte %d of block %d may be another than 0", n, count, i, last)
			}
		}
	}
}

// TestListRestAtHand: one page's number and a byte behind it, the sum reckoned of the block as it lies and of the right list (P10.3).
func TestListRestAtHand(t *testing.T) {
	for _, c := range []struct {
		sum, list string
		want      int
	}{
		{"\xbd\xde\x00\x9b", "\x00\x22", 1},
		{"\xbd\xde\x00\x9b", "\x00\x22\x01", 0},
		{"\xbf\xdc\x00\x9c", "\x00\x22\x01", 0},
		{"\xbf\xdc\x00\x9c", "\x00\x22", 0},
	} {
		image := slices.Repeat([]string{zeros}, 64)
		for i, s := range []string{"jrnl\x00\x01" + c.sum, c.list, "x"} {
			image[i+1] = s + zeros[len(s):]
		}
		if got := recovers(t, "at hand", image); got != c.want {
			t.Errorf("sum %q, list %q: %d, want %d", c.sum, c.list, got, c.want)
		}
	}
}

// TestHeadTells: a head of none, or of more copies than there is room for, is none, even if its sum is right (P10.3).
func TestHeadTells(t *testing.T) {
	r := rand.New(rand.NewSource(10))
	for _, n := range []int{64, 65, 2047, 2048} {
		p := placeOf(n)
		for _, count := range []int{0, p.m + 1, p.m + 2, 256, 1020, 1024, 32768, 65535} {
			if count > 0 && count <= p.m {
				continue
			}
			image := drawnBlocks(r, n)
			for _, sum := range []uint32{0, 1, 1 << 16, r.Uint32()} {
				b := binary.BigEndian.AppendUint16([]byte("jrnl"), uint16(count))
				image[1] = string(binary.BigEndian.AppendUint32(b, sum)) + zeros[10:]
				if recovers(t, "a number that can't be", image) != 0 {
					t.Errorf("disk of %d: %d pages are taken", n, count)
				}
			}
		}
		// One more than there is room for, all else right: the last of them is twice or no page's, but its sum is as it is to be.
		more := append(slices.Clone(p.pages), p.pages[len(p.pages)-1]+1)
		if recovers(t, "one too many", written(r, n, more)) != 0 {
			t.Errorf("disk of %d: one page too many is taken", n)
		}
	}
}

// TestRecoverAnything: disks on which a Commit was cut, or which were spoilt, or whose head was set right behind that (P10.3, R1).
func TestRecoverAnything(t *testing.T) {
	r := rand.New(rand.NewSource(11))
	taken, left := 0, 0
	for range 4000 {
		n := []int{64, 65, 66, 261}[r.Intn(4)]
		p := placeOf(n)
		image := drawnBlocks(r, n)
		for range r.Intn(3) + 1 {
			l := drawnGroup(r, n, r.Intn(p.m)+1)
			writes := commitWrites(n, l)
			image = done(image, writes[:r.Intn(len(writes)+1)])
		}
		for range r.Intn(3) {
			at := []int{0, 1, 1, 2, 3, p.copies[p.m-1], r.Intn(n)}[r.Intn(7)]
			b := []byte(image[at])
			b[[]int{r.Intn(12), r.Intn(256)}[r.Intn(2)]] = byte(r.Intn(256))
			image[at] = string(b)
		}
		if count := int(image[1][4])*256 + int(image[1][5]); r.Intn(2) == 0 && count <= p.m {
			image[1] = headFor(image[2:2+(count+127)/128], image[p.copies[0]:p.copies[0]+count])
		}
		if recovers(t, "any disk", image) > 0 {
			taken++
		} else {
			left++
		}
	}
	if taken < 500 || left < 500 {
		t.Errorf("%d were taken, %d weren't", taken, left)
	}
}

// TestRecoverCut: the first error ends it, and is the answer (P10.3).
func TestRecoverCut(t *testing.T) {
	r := rand.New(rand.NewSource(12))
	for _, count := range []int{1, 2, 31} {
		image := waiting(r, 64, drawnGroup(r, 64, count))
		want := recoverWrites(image)
		for cut := range len(want) + 2 {
			d := diskOf(t, image)
			d.Cut(cut)
			n, e := journal.Recover(d)
			if cut < len(want) && (n != 0 || e != api.ErrDown || !d.Down()) || cut >= len(want) && (n != count || e != api.OK || d.Down()) {
				t.Errorf("%d pages, cut %d: %d, %v", count, cut, n, e)
			}
			if !slices.Equal(d.Log(), want[:min(cut, len(want))]) {
				t.Errorf("%d pages, cut %d: written %v", count, cut, numbersOf(d.Log()))
			}
		}
	}
	// With nothing to write a cut isn't met.
	d, _ := disk.New(64)
	d.Cut(0)
	if n, e := journal.Recover(d); n != 0 || e != api.OK || d.Down() {
		t.Errorf("nothing waits, cut 0: %d, %v", n, e)
	}
}
