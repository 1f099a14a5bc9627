package mix_test

import (
	"hash/adler32"
	"math"
	"math/big"
	"math/rand"
	"slices"
	"strings"
	"testing"

	"aumbry/mix"
)

// texts are the empty one, short ones, and ones so long that each number of the sum passes its modulus many times.
func texts() []string {
	var all []byte
	for i := range 256 {
		all = append(all, byte(i))
	}
	l := []string{"", "ab", "ba", "abc", "a\x00", "\x00a", "\x00\x00", "\xff\xff", "\xff\x00\x80", "aumbry", "é", "\xc0\x80", string(all)}
	for i := range 256 {
		l = append(l, string([]byte{byte(i)}))
	}
	for _, n := range []int{255, 256, 257, 258, 1000, 5552, 5553, 65520, 65521, 65522, 70000} {
		l = append(l, strings.Repeat("\xff", n), strings.Repeat("\x00", n), strings.Repeat("ab", n/2))
	}
	return l
}

// sums are those whose halves stand at, below and above the modulus, and at the ends of 16 bits.
func sums() []uint32 {
	var l []uint32
	halves := []uint32{0, 1, 2, 255, 256, 32768, 65265, 65266, 65519, 65520, 65521, 65522, 65534, 65535}
	for _, high := range halves {
		for _, low := range halves {
			l = append(l, high*65536+low)
		}
	}
	return l
}

// modelHash reckons in numbers that don't wrap round, brought below 2^32 step by step.
func modelHash(s string) uint32 {
	whole := new(big.Int).Lsh(big.NewInt(1), 32)
	h := big.NewInt(2166136261)
	times := func(n int64) { h.Mod(h.Mul(h, big.NewInt(n)), whole) }
	fold := func(bits int64) {
		down := new(big.Int).Div(h, new(big.Int).Exp(big.NewInt(2), big.NewInt(bits), nil))
		h.Xor(h, down)
	}
	for _, c := range []byte(s) {
		h.Xor(h, big.NewInt(int64(c)))
		times(16777619)
	}
	fold(16)
	times(2246822507)
	fold(13)
	times(3266489909)
	fold(16)
	return uint32(h.Uint64())
}

// modelMore adds all up first and brings it below the modulus once: a byte comes to b as often as bytes follow from it on.
func modelMore(sum uint32, s string) uint32 {
	n := uint64(len(s))
	a, b := uint64(sum%65536), uint64(sum/65536)
	b += n * a
	for i := range n {
		a += uint64(s[i])
		b += (n - i) * uint64(s[i])
	}
	return uint32(b%65521*65536 + a%65521)
}

func TestHash(t *testing.T) {
	for _, c := range []struct {
		s    string
		want uint32
	}{
		{"", 2872998923},
		{"a", 444641715},
		{"b", 2193908274},
		{"ab", 2563531789},
		{"ba", 605838741},
		{"abc", 482950588},
		{"\x00", 91794203},
		{"\x00\x00", 414626237},
		{"\xff", 3099819549},
		{"\xff\xff", 3264786504},
		{"\xff\x00\x80", 667478085},
		{"é", 2387039943},
		{"aumbry", 1560712305},
		{"The quick brown fox jumps over the lazy dog", 3429625917},
		{strings.Repeat("\xff", 1000), 1964725536},
		{strings.Repeat("\x00", 1000), 1907577766},
	} {
		if h := mix.Hash(c.s); h != c.want {
			t.Errorf("Hash(%.20q) = %d, want %d", c.s, h, c.want)
		}
	}
	for _, s := range texts() {
		if h, want := mix.Hash(s), modelHash(s); h != want {
			t.Errorf("Hash of %d bytes, %.20q: %d, want %d", len(s), s, h, want)
		}
	}
}

// TestHashSpreads: of texts that differ little no bit of the hash stands nearly still. Nothing but the reckoning is promised; this tells a step left out.
func TestHashSpreads(t *testing.T) {
	const many = 4096
	for bit := range 32 {
		count := 0
		for i := range many {
			if mix.Hash(string([]byte{byte(i >> 8 << 4), byte(i & 0xf << 4), byte(i & 0xf0)}))>>bit&1 == 1 {
				count++
			}
		}
		if count < many*2/5 || count > many*3/5 {
			t.Errorf("bit %d is 1 in %d of %d", bit, count, many)
		}
	}
}

func TestSum(t *testing.T) {
	for _, c := range []struct {
		s    string
		want uint32
	}{
		{"", 1},
		{"a", 6422626},
		{"ab", 19267780},
		{"ba", 19333316},
		{"abc", 38600999},
		{"\x00", 65537},
		{"\x00\x00", 131073},
		{"\xff", 16777472},
		{"\xff\xff", 50266623},
		{"aumbry", 147587729},
		{strings.Repeat("\xff", 1000), 3874088006},
		{strings.Repeat("\x00", 1000), 65536001},
		// b comes to 65520, to 65521 and to 65522: the last bytes add 1 each.
		{strings.Repeat("\x00", 65520), 65520*65536 + 1},
		{strings.Repeat("\x00", 65521), 1},
		{strings.Repeat("\x00", 65522), 65536 + 1},
	} {
		if n := mix.Sum(c.s); n != c.want {
			t.Errorf("Sum of %d bytes, %.20q: %d, want %d", len(c.s), c.s, n, c.want)
		}
	}
	for _, s := range texts() {
		if n, want := mix.Sum(s), adler32.Checksum([]byte(s)); n != want {
			t.Errorf("Sum of %d bytes, %.20q: %d, want %d", len(s), s, n, want)
		}
	}
}

func TestMore(t *testing.T) {
	for _, c := range []struct {
		sum  uint32
		s    string
		want uint32
	}{
		{6422626, "b", 19267780},
		{1, "a", 6422626},
		{1, "", 1},
		{0, "", 0},
		{0, "\x00", 0},
		{0, "a", 97*65536 + 97},
		{65520, "", 65520},
		{65521, "", 0},
		{65522, "", 1},
		{65535, "", 14},
		{65520 * 65536, "", 65520 * 65536},
		{65521 * 65536, "", 0},
		{65522 * 65536, "", 65536},
		{65535 * 65536, "", 14 * 65536},
		{65521*65536 + 65521, "", 0},
		{math.MaxUint32, "", 14*65536 + 14},
		{math.MaxUint32, "\x00", 28*65536 + 14},
		{math.MaxUint32, "a", 125*65536 + 111},
		{65520, "\x01", 0},
		{65520, "\x02", 65536 + 1},
		{65520, "\x00", 65520*65536 + 65520},
		{65520*65536 + 1, "\x00", 1},
		{65520*65536 + 65520, "\xff", 253*65536 + 254},
	} {
		if n := mix.More(c.sum, c.s); n != c.want {
			t.Errorf("More(%d, %q) = %d, want %d", c.sum, c.s, n, c.want)
		}
	}
	for _, sum := range sums() {
		for _, s := range []string{"", "\x00", "\x01", "a", "\xff", "\xff\x00\xff", "aumbry", strings.Repeat("\xff", 600)} {
			if n, want := mix.More(sum, s), modelMore(sum, s); n != want {
				t.Errorf("More(%d, %.20q) = %d, want %d", sum, s, n, want)
			}
		}
	}
	for _, s := range texts() {
		for _, sum := range []uint32{0, 1, 65521*65536 + 65521, math.MaxUint32} {
			if n, want := mix.More(sum, s), modelMore(sum, s); n != want {
				t.Errorf("More(%d, %.20q of %d bytes) = %d, want %d", sum, s, len(s), n, want)
			}
		}
	}
}

// TestMoreOfSum: More goes on where Sum stood, wherever a text is parted (P2.3).
func TestMoreOfSum(t *testing.T) {
	for _, s := range texts() {
		whole := mix.Sum(s)
		for _, at := range []int{0, len(s) / 3, len(s) / 2, len(s)} {
			if n := mix.More(mix.Sum(s[:at]), s[at:]); n != whole {
				t.Errorf("%d bytes, %.20q, parted at %d: %d, want %d", len(s), s, at, n, whole)
			}
		}
	}
	s := strings.Repeat("\xfe\xff\x00", 200)
	for at := range len(s) + 1 {
		if n, want := mix.More(mix.Sum(s[:at]), s[at:]), mix.Sum(s); n != want {
			t.Errorf("parted at %d: %d, want %d", at, n, want)
		}
	}
	byByte := mix.Sum("")
	for i := range len(s) {
		byByte = mix.More(byByte, s[i:i+1])
	}
	if byByte != mix.Sum(s) {
		t.Errorf("byte by byte: %d, want %d", byByte, mix.Sum(s))
	}
}

// places are a text's first, some middle and its last.
func places(n int) []int {
	l := []int{0, 1, n / 4, n / 2, n - 2, n - 1}
	l = slices.DeleteFunc(l, func(i int) bool { return i < 0 || i >= n })
	slices.Sort(l)
	return slices.Compact(l)
}

// TestOneByteChanged: a text of which one byte is changed has another Sum (P2.3), whatever the byte was and becomes.
func TestOneByteChanged(t *testing.T) {
	for _, s := range []string{"\x00", "a", "\xff", "ab", "aumbry", strings.Repeat("\x00", 300), strings.Repeat("\xff", 700), strings.Repeat("a\x00\xff", 3000), strings.Repeat("\xff", 65521)} {
		for _, at := range places(len(s)) {
			was := mix.Sum(s)
			b := []byte(s)
			for c := range 256 {
				if b[at] = byte(c); b[at] != s[at] && mix.Sum(string(b)) == was {
					t.Errorf("%d bytes, %.20q: byte %d as %d has the same sum", len(s), s, at, c)
				}
			}
		}
	}
}

// TestTwoTurnedRound: so has a text of which two unlike bytes side by side are turned round (P2.3).
func TestTwoTurnedRound(t *testing.T) {
	for _, pair := range []string{"ab", "\x00\xff", "\x00\x01", "\xff\xfe", "\x80\x7f", "\xff\x00"} {
		for _, n := range []int{0, 1, 2, 255, 256, 65519, 65520, 65521, 65522} {
			for _, fill := range []string{"\x00", "a", "\xff"} {
				ahead := strings.Repeat(fill, n)
				turned := string([]byte{pair[1], pair[0]})
				for _, behind := range []string{"", "z", ahead} {
					if mix.Sum(ahead+pair+behind) == mix.Sum(ahead+turned+behind) {
						t.Errorf("%q turned round behind %d and ahead of %d bytes %q has the same sum", pair, n, len(behind), fill)
					}
				}
			}
		}
	}
}

// TestManyInputs holds every call against its model at inputs drawn from a fixed seed, each asked twice (R1, R5).
func TestManyInputs(t *testing.T) {
	r := rand.New(rand.NewSource(2))
	for range 5000 {
		b := make([]byte, r.Intn(400))
		r.Read(b)
		s, sum := string(b), r.Uint32()|uint32(r.Intn(2))*0xffff|uint32(r.Intn(2))*0xffff0000
		for range 2 {
			if h, want := mix.Hash(s), modelHash(s); h != want {
				t.Errorf("Hash(%q) = %d, want %d", s, h, want)
			}
			if n, want := mix.Sum(s), adler32.Checksum(b); n != want {
				t.Errorf("Sum(%q) = %d, want %d", s, n, want)
			}
			if n, want := mix.More(sum, s), modelMore(sum, s); n != want {
				t.Errorf("More(%d, %q) = %d, want %d", sum, s, n, want)
			}
		}
	}
}

// TestNotChanged: the texts handed in stand as they were (R4), and the calls ahead of one don't move its answer (R5).
func TestNotChanged(t *testing.T) {
	b := []byte("abc\x00\xff")
	s := string(b)
	h, n, m := mix.Hash(s), mix.Sum(s), mix.More(77, s)
	mix.Hash("other")
	mix.Sum(strings.Repeat("\xff", 1000))
	mix.More(math.MaxUint32, "other")
	if s != string(b) {
		t.Errorf("what was handed in is now %q", s)
	}
	if mix.Hash(s) != h || mix.Sum(s) != n || mix.More(77, s) != m {
		t.Error("asked again, another answer")
	}
}
