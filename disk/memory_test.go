package disk_test

import (
	"math/rand"
	"slices"
	"testing"
	"unsafe"

	"aumbry/api"
	"aumbry/disk"
)

// span is where something lies in memory, its spare room included. As long as the span is there that isn't used again, for another answer perhaps.
type span struct {
	from, to uintptr
	kept     unsafe.Pointer
}

func spanAt(kept unsafe.Pointer, size uintptr) span {
	return span{uintptr(kept), uintptr(kept) + size, kept}
}

func textSpan(s string) span {
	return spanAt(unsafe.Pointer(unsafe.StringData(s)), uintptr(len(s)))
}

func listSpan[T any](l []T) span {
	var one T
	return spanAt(unsafe.Pointer(unsafe.SliceData(l)), uintptr(cap(l))*unsafe.Sizeof(one))
}

func blocksSpans(l []string) []span {
	spans := []span{listSpan(l)}
	for _, s := range l {
		spans = append(spans, textSpan(s))
	}
	return spans
}

func logSpans(l []api.Page) []span {
	spans := []span{listSpan(l)}
	for _, p := range l {
		spans = append(spans, textSpan(p.Data))
	}
	return spans
}

// apart reports whether no two of the spans have memory in common.
func apart(spans []span) bool {
	spans = slices.DeleteFunc(slices.Clone(spans), func(s span) bool { return s.from == s.to })
	slices.SortFunc(spans, func(a, b span) int {
		if a.from < b.from {
			return -1
		}
		return 1
	})
	for i := 1; i < len(spans); i++ {
		if spans[i].from < spans[i-1].to {
			return false
		}
	}
	return true
}

// inks are texts whose bytes can be written over behind their backs, as those of texts can that lie in a buffer.
type inks struct{ all [][]byte }

func (k *inks) text(s string) string {
	b := append(make([]byte, 0, len(s)), s...)
	k.all = append(k.all, b)
	return unsafe.String(unsafe.SliceData(b), len(s))
}

// blocks are these in a list with spare room, which is filled.
func (k *inks) blocks(l []string) []string {
	own := make([]string, 0, len(l)+20)
	for _, s := range l {
		own = append(own, k.text(s))
	}
	for i := len(own); i < cap(own); i++ {
		own[:cap(own)][i] = k.text("spare")
	}
	return own
}

func (k *inks) spoil() {
	for _, b := range k.all {
		for i := range b {
			b[i] = 'q'
		}
	}
}

// TestNewMemory: what is answered lies apart from what is handed in and from every other answer, the list and its texts (R4).
func TestNewMemory(t *testing.T) {
	r := rand.New(rand.NewSource(6))
	var k inks
	given := k.blocks(drawnBlocks(r, 70))
	spans := blocksSpans(given)
	disks := make([]*disk.Disk, 3)
	var e api.Errno
	for i := range disks {
		disks[i], e = disk.Of(given)
		if e != api.OK {
			t.Fatal(e)
		}
	}
	empty, e := disk.New(70)
	if e != api.OK {
		t.Fatal(e)
	}
	for _, d := range append(disks, empty) {
		for i := range 9 {
			s := k.text(drawn(r))
			spans = append(spans, textSpan(s))
			// The same text twice: the log's two pages are apart even so.
			if d.Write(i, s) != api.OK || d.Write(i+1, s) != api.OK {
				t.Fatal("a write was refused")
			}
		}
		for range 2 {
			for at := range 70 {
				s, e := d.Read(at)
				if e != api.OK {
					t.Fatal(e)
				}
				spans = append(spans, textSpan(s))
			}
			spans = slices.Concat(spans, blocksSpans(d.Image()), logSpans(d.Log()))
		}
	}
	if !apart(spans) {
		t.Error("answers share memory with what was handed in, or with each other")
	}
}

// TestHandedInStays: no call changes what it is handed, spare room included (R4).
func TestHandedInStays(t *testing.T) {
	r := rand.New(rand.NewSource(7))
	var k, other inks
	plain := drawnBlocks(r, 64)
	given := k.blocks(plain)
	d, e := disk.Of(given)
	if e != api.OK {
		t.Fatal(e)
	}
	for at := range 64 {
		old := drawn(r)
		s := k.text(old)
		if d.Write(at, s) != api.OK || s != old {
			t.Errorf("write %d: refused, or the text has changed", at)
		}
	}
	d.Cut(0)
	d.Write(0, given[1])
	d.Restore()
	if want := other.blocks(plain); !slices.Equal(given[:cap(given)], want[:cap(want)]) {
		t.Error("the blocks that were handed in have changed")
	}
	// Nor does one that is refused.
	given[63] = "short"
	if _, e := disk.Of(given); e != api.ErrForm || !slices.Equal(given[:63], plain[:63]) || given[63] != "short" {
		t.Error("the blocks that were refused have changed")
	}
}

// TestWrittenOver: neither the blocks' list nor a byte of a text is kept as it was handed in, and nothing that is answered is the disk's own (R4).
func TestWrittenOver(t *testing.T) {
	r := rand.New(rand.NewSource(8))
	for what, over := range map[string]func(k *inks, given []string, d *disk.Disk){
		"the list":  func(k *inks, given []string, d *disk.Disk) { clear(given[:cap(given)]) },
		"the texts": func(k *inks, given []string, d *disk.Disk) { k.spoil() },
		"images": func(k *inks, given []string, d *disk.Disk) {
			for range 3 {
				image := d.Image()
				clear(image[:cap(image)])
			}
		},
		"logs": func(k *inks, given []string, d *disk.Disk) {
			for range 3 {
				log := d.Log()
				for i := range log[:cap(log)] {
					log[:cap(log)][i] = api.Page{At: 1, Data: zeros}
				}
			}
		},
		"what is put behind": func(k *inks, given []string, d *disk.Disk) {
			_ = append(d.Image(), zeros)
			_ = append(d.Log(), api.Page{At: 1, Data: zeros})
			_ = append(given, zeros)
		},
	} {
		var k inks
		plain := drawnBlocks(r, 64)
		given := k.blocks(plain)
		d, e := disk.Of(given)
		if e != api.OK {
			t.Fatal(e)
		}
		x := &pair{d, past{first: plain}}
		for range 3 {
			for range 5 {
				at, s := r.Intn(64), drawn(r)
				if e := d.Write(at, k.text(s)); e != api.OK {
					t.Fatal(e)
				}
				x.p.acts = append(x.p.acts, act{what: write, at: at, s: s})
			}
			early, earlyLog := d.Image(), d.Log()
			over(&k, given, d)
			if !slices.Equal(early, x.p.image()) || !slices.Equal(earlyLog, x.p.log()) {
				t.Errorf("%s written over: an earlier answer has changed", what)
			}
			for at := range 64 {
				x.do(t, act{what: read, at: at})
			}
			x.hold(t)
		}
	}
}

// TestAnswersStay: what was answered stays as it was, whatever the disk goes through then.
func TestAnswersStay(t *testing.T) {
	r := rand.New(rand.NewSource(10))
	x := begin(t, drawnBlocks(r, 64))
	for range 4 {
		x.do(t, act{what: write, at: r.Intn(64), s: drawn(r)})
		image, log := x.d.Image(), x.d.Log()
		s, e := x.d.Read(3)
		wantImage, wantLog := x.p.image(), x.p.log()
		for at := range 64 {
			x.do(t, act{what: write, at: at, s: drawn(r)})
		}
		x.do(t, act{what: cut})
		x.do(t, act{what: write, s: zeros})
		x.do(t, act{what: restore})
		if !slices.Equal(image, wantImage) || !slices.Equal(log, wantLog) || s != wantImage[3] || e != api.OK {
			t.Error("an answer has changed")
		}
	}
}

// TestAnything: every call ends, none panics, at any arguments (R1), and the model tells what is answered.
func TestAnything(t *testing.T) {
	r := rand.New(rand.NewSource(11))
	made := 0
	for range 3000 {
		l := make([]string, []int{0, 1, 63, 64, 64, 64, 65, 2049}[r.Intn(8)])
		for i := range l {
			l[i] = zeros
		}
		if len(l) > 0 && r.Intn(3) == 0 {
			l[r.Intn(len(l))] = zeros[r.Intn(2):] + []string{"", "xx"}[r.Intn(2)]
		}
		want := api.OK
		if slices.ContainsFunc(l, func(s string) bool { return len(s) != 256 }) {
			want = api.ErrForm
		}
		if len(l) < 64 || len(l) > 2048 {
			want = api.ErrRange
		}
		d, e := disk.Of(l)
		if e != want || (d == nil) != (want != api.OK) {
			t.Fatalf("Of %d blocks = %v, %v, want %v", len(l), d != nil, e, want)
		}
		if d == nil {
			continue
		}
		made++
		x := &pair{d, past{first: l}}
		for range 20 {
			x.do(t, act{what: r.Intn(4), at: []int{0, 1, 2, 63, 64, -1, int(r.Uint64())}[r.Intn(7)], s: []string{zeros, zeros, block('x'), "", "x", zeros + "x"}[r.Intn(6)]})
		}
		x.hold(t)
	}
	if made < 1000 {
		t.Errorf("only %d disks were made", made)
	}
}
