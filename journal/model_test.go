package journal_test

import (
	"encoding/binary"
	"hash/adler32"
	"math/rand"
	"slices"
	"strings"
	"testing"

	"aumbry/api"
	"aumbry/disk"
)

var zeros = strings.Repeat("\x00", 256)

// filled is a block of one byte, so often.
func filled(b byte) string { return strings.Repeat(string([]byte{b}), 256) }

// drawn is a block of any bytes.
func drawn(r *rand.Rand) string {
	b := make([]byte, 256)
	r.Read(b)
	return string(b)
}

// drawnBlocks are n blocks, of which the head is none for a group.
func drawnBlocks(r *rand.Rand, n int) []string {
	l := make([]string, n)
	for i := range l {
		l[i] = drawn(r)
	}
	l[1] = zeros
	return l
}

func diskOf(t testing.TB, blocks []string) *disk.Disk {
	t.Helper()
	d, e := disk.Of(blocks)
	if e != api.OK {
		t.Fatal(e)
	}
	return d
}

// place is the chapter's first paragraph, taken by its words: where on a disk of n blocks something is.
type place struct {
	m, d   int
	list   []int // its blocks
	copies []int
	pages  []int // their numbers, rising
}

func placeOf(n int) place {
	var p place
	for m := range n {
		if d := (m + 127) / 128; 2*m+1+d <= n {
			p.m, p.d = m, d
		}
	}
	next := 0
	run := func(count int) []int {
		var l []int
		for range count {
			l = append(l, next)
			next++
		}
		return l
	}
	p.pages = run(1)
	run(1) // the head
	p.list = run(p.d)
	p.copies = run(p.m)
	p.pages = append(p.pages, run(p.m-1)...)
	return p
}

// headFor is the head's bytes for the copies, with the blocks of the list that are used.
func headFor(list, copies []string) string {
	b := []byte("jrnl")
	b = binary.BigEndian.AppendUint16(b, uint16(len(copies)))
	b = binary.BigEndian.AppendUint32(b, adler32.Checksum([]byte(strings.Join(list, "")+strings.Join(copies, ""))))
	return string(append(b, make([]byte, 246)...))
}

// listFor is the list's bytes for pages of these numbers, in blocks.
func listFor(numbers []int) []string {
	var b []byte
	for _, at := range numbers {
		b = binary.BigEndian.AppendUint16(b, uint16(at))
	}
	for len(b)%256 != 0 {
		b = append(b, 0)
	}
	var l []string
	for part := range slices.Chunk(b, 256) {
		l = append(l, string(part))
	}
	return l
}

func numbersOf(l []api.Page) []int {
	var numbers []int
	for _, p := range l {
		numbers = append(numbers, p.At)
	}
	return numbers
}

func datasOf(l []api.Page) []string {
	var datas []string
	for _, p := range l {
		datas = append(datas, p.Data)
	}
	return datas
}

// commitWrites are the blocks that a Commit of l is to write.
func commitWrites(n int, l []api.Page) []api.Page {
	if len(l) == 0 {
		return nil
	}
	p := placeOf(n)
	var writes []api.Page
	for i, page := range l {
		writes = append(writes, api.Page{At: p.copies[i], Data: page.Data})
	}
	list := listFor(numbersOf(l))
	for i, s := range list {
		writes = append(writes, api.Page{At: p.list[i], Data: s})
	}
	writes = append(writes, api.Page{At: 1, Data: headFor(list, datasOf(l))})
	writes = append(writes, l...)
	return append(writes, api.Page{At: 1, Data: zeros})
}

// headWrite is how many writes of a Commit of so many pages stand ahead of the head's first one.
func headWrite(count int) int { return count + (count+127)/128 }

// recoverWrites are the blocks that a Recover is to write of a disk with this image.
func recoverWrites(image []string) []api.Page {
	p := placeOf(len(image))
	head := image[1]
	if head[:4] != "jrnl" {
		return nil
	}
	count := int(head[4])*256 + int(head[5])
	if count < 1 || count > p.m {
		return nil
	}
	var writes []api.Page
	var copies []string
	met := map[int]int{}
	for i := range count {
		s := image[p.list[i/128]]
		at := int(s[i%128*2])*256 + int(s[i%128*2+1])
		met[at]++
		if !slices.Contains(p.pages, at) || met[at] > 1 {
			return nil
		}
		copies = append(copies, image[p.copies[i]])
		writes = append(writes, api.Page{At: at, Data: copies[i]})
	}
	used := image[2 : 2+(count+127)/128]
	rest := strings.Join(used, "")[2*count:]
	if strings.Trim(rest, "\x00") != "" || head != headFor(used, copies) {
		return nil
	}
	return append(writes, api.Page{At: 1, Data: zeros})
}

// done is the image behind these writes.
func done(image []string, writes []api.Page) []string {
	l := slices.Clone(image)
	for _, w := range writes {
		l[w.At] = w.Data
	}
	return l
}

// pagesOf are the pages of an image, without what else is there.
func pagesOf(image []string) []string {
	var l []string
	for _, at := range placeOf(len(image)).pages {
		l = append(l, image[at])
	}
	return l
}

// drawnGroup is count pages of a disk of n blocks, in any order; some have the same bytes.
func drawnGroup(r *rand.Rand, n, count int) []api.Page {
	pages := placeOf(n).pages
	l := []api.Page{}
	for i, k := range r.Perm(len(pages))[:count] {
		l = append(l, api.Page{At: pages[k], Data: drawn(r)})
		if r.Intn(5) == 0 {
			l[i].Data = l[r.Intn(i+1)].Data
		}
		if r.Intn(9) == 0 {
			l[i].Data = zeros
		}
	}
	return l
}

// sizes are disks with and without a block that is left, and where the list grows by a block.
var sizes = []int{64, 65, 66, 67, 100, 257, 258, 259, 260, 261, 262, 514, 515, 516, 517, 518, 900, 2046, 2047, 2048}
