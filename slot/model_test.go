package slot_test

import (
	"bytes"
	"encoding/binary"
	"math/rand"
	"regexp"
	"slices"
	"strings"
	"testing"

	"aumbry/api"
	"aumbry/mix"
	"aumbry/slot"
)

// The models go by the chapter's words, place by place in the page, without a list of fields, and read it by what each byte has to be.

var (
	symbolForm   = regexp.MustCompile(`^[a-z][a-z0-9]{0,7}$`)
	variableForm = regexp.MustCompile(`^[A-Z][A-Z0-9]{0,7}$`)
)

// same holds buckets against each other; nil and empty are one (R3).
func same(a, b api.Bucket) bool {
	return a.Depth == b.Depth && a.Next == b.Next && slices.EqualFunc(a.Nodes, b.Nodes, func(x, y api.Node) bool {
		return x.At == y.At && x.Name == y.Name && slices.Equal(x.Kids, y.Kids) && x.Count == y.Count && x.Queued == y.Queued && x.Next == y.Next
	})
}

func isAddr(a api.Addr) bool { return a%65536 != 0 && a/65536 < 1<<32 }

// six are the bytes of an address.
func six(a api.Addr) []byte { return binary.BigEndian.AppendUint64(nil, uint64(a))[2:] }

func modelHash(name string, kids []api.Addr) (uint32, api.Errno) {
	variable := variableForm.MatchString(name)
	switch {
	case !variable && !symbolForm.MatchString(name):
		return 0, api.ErrName
	case len(kids) > 4, variable && len(kids) > 0:
		return 0, api.ErrArity
	case slices.ContainsFunc(kids, func(a api.Addr) bool { return !isAddr(a) }):
		return 0, api.ErrRange
	}
	b := make([]byte, 9)
	copy(b, name)
	b[8] = byte(len(kids))
	for _, a := range kids {
		b = append(b, six(a)...)
	}
	return mix.Hash(string(b)), api.OK
}

func modelFault(b api.Bucket) api.Errno {
	if !slices.Contains([]int{0, 1, 2, 3, 4, 5}, b.Depth) || b.Next < 0 || b.Next > 2047 {
		return api.ErrRange
	}
	if len(b.Nodes) > 5 {
		return api.ErrMany
	}
	ahead := map[api.Addr]bool{}
	for _, x := range b.Nodes {
		h, e := modelHash(x.Name, x.Kids)
		switch {
		case e != api.OK:
			return e
		case x.Count < 0, x.Count > 4294967295, x.Next != 0 && !isAddr(x.Next):
			return api.ErrRange
		case !isAddr(x.At), x.At/65536 != api.Addr(h):
			return api.ErrForm
		case ahead[x.At]:
			return api.ErrTwice
		}
		ahead[x.At] = true
	}
	return api.OK
}

func modelPack(b api.Bucket) (string, api.Errno) {
	if e := modelFault(b); e != api.OK {
		return "", e
	}
	p := make([]byte, 256)
	p[0], p[1], p[2], p[3] = 3, byte(b.Depth), byte(b.Next>>8), byte(b.Next)
	for i, x := range b.Nodes {
		s := p[16+48*i : 64+48*i]
		s[0] = 1
		if x.Queued {
			s[1] = 1
		}
		binary.BigEndian.PutUint16(s[2:], uint16(x.At%65536))
		copy(s[4:12], x.Name)
		s[12] = byte(len(x.Kids))
		binary.BigEndian.PutUint32(s[13:], uint32(x.Count))
		copy(s[17:23], six(x.Next))
		for j, a := range x.Kids {
			copy(s[23+6*j:29+6*j], six(a))
		}
	}
	return string(p), api.OK
}

func number(s string) api.Addr {
	var n api.Addr
	for _, b := range []byte(s) {
		n = n<<8 + api.Addr(b)
	}
	return n
}

func blank(s string) bool { return strings.Trim(s, "\x00") == "" }

// modelNode answers the node of a slot that isn't blank, and whether it may be.
func modelNode(s string) (api.Node, bool) {
	name, behind, _ := strings.Cut(s[4:12], "\x00")
	x := api.Node{Name: name, Queued: s[1] == 1, Count: int(number(s[13:17])), Next: number(s[17:23])}
	if s[0] != 1 || s[1] > 1 || number(s[2:4]) == 0 || !blank(behind) || s[12] > 4 || x.Next != 0 && !isAddr(x.Next) {
		return api.Node{}, false
	}
	end := 23 + 6*int(s[12])
	if !blank(s[end:]) {
		return api.Node{}, false
	}
	for i := 23; i < end; i += 6 {
		x.Kids = append(x.Kids, number(s[i:i+6]))
	}
	h, e := modelHash(x.Name, x.Kids)
	x.At = api.Addr(h)*65536 + number(s[2:4])
	return x, e == api.OK
}

func modelUnpack(s string) (api.Bucket, api.Errno) {
	if len(s) != 256 || s[0] != 3 || s[1] > 5 || s[2] > 7 || !blank(s[4:16]) {
		return api.Bucket{}, api.ErrForm
	}
	b := api.Bucket{Depth: int(s[1]), Next: int(number(s[2:4]))}
	for i := 16; i < 256 && !blank(s[i:]); i += 48 {
		x, ok := modelNode(s[i : i+48])
		if !ok || slices.ContainsFunc(b.Nodes, func(y api.Node) bool { return y.At == x.At }) {
			return api.Bucket{}, api.ErrForm
		}
		b.Nodes = append(b.Nodes, x)
	}
	return b, api.OK
}

func drawnName(r *rand.Rand) string {
	first, others := "abz", "az09"
	if r.Intn(3) == 0 {
		first, others = "ABZ", "AZ09"
	}
	b := []byte{first[r.Intn(3)]}
	for range r.Intn(1 + r.Intn(8)) {
		b = append(b, others[r.Intn(4)])
	}
	return string(b)
}

// drawnAddr is an address, often one at the edges.
func drawnAddr(r *rand.Rand) api.Addr {
	hash := []uint32{0, 1, 1<<32 - 1, r.Uint32()}[r.Intn(4)]
	second := []int{1, 2, 65535, 1 + r.Intn(65535)}[r.Intn(4)]
	return api.Addr(hash)*65536 + api.Addr(second)
}

func drawnCount(r *rand.Rand) int {
	return []int{0, 1, 255, 256, 1<<32 - 1, int(r.Uint32())}[r.Intn(6)]
}

func drawnNode(r *rand.Rand) api.Node {
	x := api.Node{Name: drawnName(r), Count: drawnCount(r), Queued: r.Intn(2) == 0}
	if symbolForm.MatchString(x.Name) {
		for range r.Intn(5) {
			x.Kids = append(x.Kids, drawnAddr(r))
		}
	}
	if r.Intn(2) == 0 {
		x.Next = drawnAddr(r)
	}
	h, _ := modelHash(x.Name, x.Kids)
	x.At = api.Addr(h)*65536 + drawnAddr(r)%65536
	return x
}

// drawnBucket is one that may be, but that now and then a node of it has the At of another one.
func drawnBucket(r *rand.Rand) api.Bucket {
	b := api.Bucket{Depth: r.Intn(6), Next: []int{0, 1, 255, 256, 2047, r.Intn(2048)}[r.Intn(6)]}
	for range r.Intn(6) {
		x := drawnNode(r)
		if n := len(b.Nodes); n > 0 && r.Intn(4) == 0 {
			y := b.Nodes[r.Intn(n)]
			x.Name, x.Kids, x.At = y.Name, slices.Clone(y.Kids), y.At/65536*65536+drawnAddr(r)%65536
		}
		b.Nodes = append(b.Nodes, x)
	}
	return b
}

// drawnWrong is a bucket of which some parts may be other ones.
func drawnWrong(r *rand.Rand) api.Bucket {
	b := drawnBucket(r)
	for range r.Intn(8) * r.Intn(2) {
		b.Nodes = append(b.Nodes, drawnNode(r))
	}
	for range 1 + r.Intn(3) {
		if r.Intn(8) == 0 {
			b.Depth, b.Next = r.Intn(10)-2, []int{-1, 0, 2047, 2048, 65536}[r.Intn(5)]
			continue
		}
		if len(b.Nodes) == 0 {
			continue
		}
		spoil(r, &b.Nodes[r.Intn(len(b.Nodes))], b.Nodes)
	}
	return b
}

func spoil(r *rand.Rand, x *api.Node, l []api.Node) {
	wrong := []api.Addr{0, 65536, 1 << 48, 1<<48 + 1, x.At + 65536, x.At - 1, x.At + 1, x.At + 1<<48}
	switch r.Intn(8) {
	case 0:
		x.Name = []string{"", "aA", "Aa", "abcdefghi", "a\x00", "-", "X", "b"}[r.Intn(8)]
	case 1:
		x.Kids = append(x.Kids, drawnAddr(r))
	case 2:
		x.Kids = append(x.Kids, wrong[r.Intn(len(wrong))])
	case 3:
		x.Count = []int{-1, 1 << 32, 1<<32 - 1, -1 << 63}[r.Intn(4)]
	case 4:
		x.Next = wrong[r.Intn(len(wrong))]
	case 5:
		x.At = wrong[r.Intn(len(wrong))]
	case 6:
		x.At = l[r.Intn(len(l))].At
	case 7:
		*x = l[r.Intn(len(l))]
		x.Kids = slices.Clone(x.Kids)
	}
}

func holdPack(t *testing.T, b api.Bucket) api.Errno {
	t.Helper()
	s, e := slot.Pack(b)
	if want, wantE := modelPack(b); s != want || e != wantE {
		t.Fatalf("Pack(%v) = %q, %v; want %q, %v", b, s, e, want, wantE)
	}
	if e == api.OK {
		if again, e := slot.Unpack(s); !same(again, b) || e != api.OK {
			t.Fatalf("Unpack of Pack of %v = %v, %v", b, again, e)
		}
	}
	return e
}

func holdUnpack(t *testing.T, s string) api.Errno {
	t.Helper()
	b, e := slot.Unpack(s)
	if want, wantE := modelUnpack(s); !same(b, want) || e != wantE {
		t.Fatalf("Unpack(%q) = %v, %v; want %v, %v", s, b, e, want, wantE)
	}
	if e == api.OK {
		if again, e := slot.Pack(b); again != s || e != api.OK {
			t.Fatalf("Pack of Unpack of %q = %q, %v", s, again, e)
		}
	}
	return e
}

// seldom tells those of the errors that were met fewer than least times.
func seldom(t *testing.T, met map[api.Errno]int, least int, errors ...api.Errno) {
	t.Helper()
	for _, e := range errors {
		if met[e] < least {
			t.Errorf("%v was met %d times only", e, met[e])
		}
	}
}

// TestDrawnBuckets: buckets that may be, or in which an address stands twice (P15.2, P15.3).
func TestDrawnBuckets(t *testing.T) {
	r := rand.New(rand.NewSource(1))
	met := map[api.Errno]int{}
	for range 20000 {
		met[holdPack(t, drawnBucket(r))]++
	}
	seldom(t, met, 500, api.OK, api.ErrTwice)
}

// TestWrongBuckets: what is wrong in a bucket is told by the first fault (P15.2, R2).
func TestWrongBuckets(t *testing.T) {
	r := rand.New(rand.NewSource(2))
	met := map[api.Errno]int{}
	for range 40000 {
		met[holdPack(t, drawnWrong(r))]++
	}
	seldom(t, met, 500, api.OK, api.ErrRange, api.ErrMany, api.ErrName, api.ErrArity, api.ErrForm, api.ErrTwice)
}

// TestDrawnContents: Hash by the chapter's words, at names and kids of all kinds (P15.1).
func TestDrawnContents(t *testing.T) {
	r := rand.New(rand.NewSource(3))
	met := map[api.Errno]int{}
	for range 40000 {
		x := drawnNode(r)
		for range r.Intn(3) {
			spoil(r, &x, []api.Node{drawnNode(r)})
		}
		h, e := slot.Hash(x.Name, x.Kids)
		if want, wantE := modelHash(x.Name, x.Kids); h != want || e != wantE {
			t.Fatalf("Hash(%q, %v) = %d, %v; want %d, %v", x.Name, x.Kids, h, e, want, wantE)
		}
		met[e]++
	}
	seldom(t, met, 500, api.OK, api.ErrName, api.ErrArity, api.ErrRange)
}

// TestEveryNameByte: each byte at each place of a name (P15.1).
func TestEveryNameByte(t *testing.T) {
	for _, name := range []string{"a", "A", "abcdefgh", "A2345678", "zz"} {
		for i := range len(name) {
			for b := range 256 {
				other := name[:i] + string([]byte{byte(b)}) + name[i+1:]
				h, e := slot.Hash(other, nil)
				if want, wantE := modelHash(other, nil); h != want || e != wantE {
					t.Errorf("Hash(%q) = %d, %v; want %d, %v", other, h, e, want, wantE)
				}
			}
		}
	}
}

// TestChangedPages: pages of which any byte is another one, or is missing, or stands twice (P15.2, P15.3).
func TestChangedPages(t *testing.T) {
	r := rand.New(rand.NewSource(4))
	met := map[api.Errno]int{}
	for range 40 {
		p, e := slot.Pack(drawnBucket(r))
		if e != api.OK {
			continue
		}
		for i := range 256 {
			for _, b := range []byte{0, 1, 2, 3, 4, 5, 6, 7, 8, 'a', 'z', 'A', '0', 128, 255, p[i] - 1, p[i] + 1, p[i] ^ 32} {
				met[holdUnpack(t, p[:i]+string([]byte{b})+p[i+1:])]++
			}
			met[holdUnpack(t, p[:i])]++
			met[holdUnpack(t, p[:i]+p[i+1:]+"\x00")]++
			met[holdUnpack(t, (p[:i] + "\x00" + p[i:])[:256])]++
		}
		met[holdUnpack(t, p+"\x00")]++
		met[holdUnpack(t, p+p)]++
	}
	seldom(t, met, 1000, api.OK, api.ErrForm)
}

// TestShuffledSlots: slots of pages laid anew in any order, left out or doubled (P15.2).
func TestShuffledSlots(t *testing.T) {
	r := rand.New(rand.NewSource(5))
	met := map[api.Errno]int{}
	for range 20000 {
		p, e := modelPack(drawnBucket(r))
		if e != api.OK {
			continue
		}
		var b bytes.Buffer
		b.WriteString(p[:16])
		for range 5 {
			from := 16 + 48*r.Intn(5)
			b.WriteString(p[from : from+48])
		}
		met[holdUnpack(t, b.String())]++
	}
	seldom(t, met, 500, api.OK, api.ErrForm)
}

// TestDrawnPages: slots whose bytes are drawn, most of them such that they may be (P15.2).
func TestDrawnPages(t *testing.T) {
	r := rand.New(rand.NewSource(6))
	met := map[api.Errno]int{}
	for range 60000 {
		b := make([]byte, 256)
		b[0], b[1], b[3] = 3, byte(r.Intn(6)), byte(r.Intn(9))
		for i := 0; i < r.Intn(6); i++ {
			s := b[16+48*i:]
			s[0], s[1], s[3], s[4] = 1, byte(r.Intn(2)), byte(1+r.Intn(3)), "abX"[r.Intn(3)]
			s[12] = byte(r.Intn(1 + r.Intn(4)))
			for j := range int(s[12]) {
				s[28+6*j] = byte(r.Intn(9))
			}
			if r.Intn(5) == 0 {
				s[r.Intn(48)] = byte(r.Intn(256))
			}
		}
		met[holdUnpack(t, string(b))]++
	}
	seldom(t, met, 1000, api.OK, api.ErrForm)
}
