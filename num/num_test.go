package num_test

import (
	"math"
	"math/big"
	"math/rand"
	"strings"
	"testing"
	"unsafe"

	"aumbry/api"
	"aumbry/num"
)

// Widths, places, lengths and numbers at and beyond every edge that the chapter names.
var (
	widths  = []int{math.MinInt, math.MinInt + 1, -8, -1, 0, 1, 2, 3, 4, 5, 6, 7, 8, 9, 64, math.MaxInt - 1, math.MaxInt}
	places  = []int{math.MinInt, math.MinInt + 1, -9, -1, 0, 1, 2, 3, 7, 8, 9, 10, 1 << 40, 1 << 62, math.MaxInt - 8, math.MaxInt - 1, math.MaxInt}
	lengths = []int{math.MinInt, -65536, -1, 0, 1, 2, 255, 256, 65535, 65536, 65537, math.MaxInt}
	texts   = []string{"", "\x00", "\x00\x00\x00", "a", "a\x00", "\x00a", "abc", "a\x00b\x00\x00", "\xff\xfe\x00\x80", "\xff\xff\xff\xff\xff\xff\xff\xff", "abcdefghi", "\xc0\x80\x00", "é\x00", strings.Repeat("x", 256)}
)

// numbers are those that just fit a width and that just don't, with some between.
func numbers() []uint64 {
	l := []uint64{0, 1, 2, 127, 128, 258, math.MaxUint64, math.MaxUint64 - 1, math.MaxInt64, 0x0102030405060708}
	for width := 1; width <= 7; width++ {
		edge := uint64(1) << (8 * width)
		l = append(l, edge-1, edge, edge+1, edge/2)
	}
	return l
}

// modelPut works the bytes out by another way than the package: big numbers.
func modelPut(n uint64, width int) (string, api.Errno) {
	if width < 1 || width > 8 {
		return "", api.ErrRange
	}
	x := new(big.Int).SetUint64(n)
	if x.Cmp(new(big.Int).Exp(big.NewInt(256), big.NewInt(int64(width)), nil)) >= 0 {
		return "", api.ErrRange
	}
	return string(x.FillBytes(make([]byte, width))), api.OK
}

// modelStands counts the bytes one by one, so that nothing can wrap round.
func modelStands(s string, at, width int) bool {
	count := 0
	for i := range len(s) {
		if i >= at {
			count++
		}
	}
	return at >= 0 && count >= width
}

func modelGet(s string, at, width int) (uint64, api.Errno) {
	if width < 1 || width > 8 {
		return 0, api.ErrRange
	}
	if !modelStands(s, at, width) {
		return 0, api.ErrForm
	}
	return new(big.Int).SetBytes([]byte(s[at : at+width])).Uint64(), api.OK
}

func modelSet(s string, at int, n uint64, width int) (string, api.Errno) {
	b, e := modelPut(n, width)
	if e != api.OK {
		return "", e
	}
	if !modelStands(s, at, width) {
		return "", api.ErrForm
	}
	l := []byte(s)
	for i := range l {
		if i >= at && i < at+width {
			l[i] = b[i-at]
		}
	}
	return string(l), api.OK
}

func TestPut(t *testing.T) {
	for _, c := range []struct {
		n     uint64
		width int
		want  string
		e     api.Errno
	}{
		{258, 2, "\x01\x02", api.OK},
		{0, 1, "\x00", api.OK},
		{0, 8, "\x00\x00\x00\x00\x00\x00\x00\x00", api.OK},
		{1, 3, "\x00\x00\x01", api.OK},
		{255, 1, "\xff", api.OK},
		{256, 1, "", api.ErrRange},
		{256, 2, "\x01\x00", api.OK},
		{65535, 2, "\xff\xff", api.OK},
		{65536, 2, "", api.ErrRange},
		{1<<56 - 1, 7, "\xff\xff\xff\xff\xff\xff\xff", api.OK},
		{1 << 56, 7, "", api.ErrRange},
		{1 << 56, 8, "\x01\x00\x00\x00\x00\x00\x00\x00", api.OK},
		{math.MaxUint64, 8, "\xff\xff\xff\xff\xff\xff\xff\xff", api.OK},
		{0x0102030405060708, 8, "\x01\x02\x03\x04\x05\x06\x07\x08", api.OK},
		{0, 0, "", api.ErrRange},
		{1, 0, "", api.ErrRange},
		{0, 9, "", api.ErrRange},
		{math.MaxUint64, 9, "", api.ErrRange},
		{0, -1, "", api.ErrRange},
		{0, math.MinInt, "", api.ErrRange},
		{0, math.MaxInt, "", api.ErrRange},
	} {
		if s, e := num.Put(c.n, c.width); s != c.want || e != c.e {
			t.Errorf("Put(%d, %d) = %q, %d; want %q, %d", c.n, c.width, s, e, c.want, c.e)
		}
	}
}

func TestGet(t *testing.T) {
	for _, c := range []struct {
		s         string
		at, width int
		want      uint64
		e         api.Errno
	}{
		{"\x00\x01\x02", 1, 2, 258, api.OK},
		{"\x00\x01\x02", 0, 3, 258, api.OK},
		{"\x00\x01\x02", 2, 1, 2, api.OK},
		{"\x00\x01\x02", 2, 2, 0, api.ErrForm},
		{"\x00\x01\x02", 3, 1, 0, api.ErrForm},
		{"\x00\x01\x02", 4, 1, 0, api.ErrForm},
		{"\x00\x01\x02", -1, 1, 0, api.ErrForm},
		{"\x00\x01\x02", math.MinInt, 1, 0, api.ErrForm},
		{"\x00\x01\x02", math.MaxInt, 8, 0, api.ErrForm},
		{"\x00\x01\x02", 0, 4, 0, api.ErrForm},
		{"\xff\xff\xff\xff\xff\xff\xff\xff", 0, 8, math.MaxUint64, api.OK},
		{"\xff\xff\xff\xff\xff\xff\xff\xff", 1, 8, 0, api.ErrForm},
		{"\x80", 0, 1, 128, api.OK},
		{"", 0, 1, 0, api.ErrForm},
		{"abcdefghi", 0, 0, 0, api.ErrRange},
		{"abcdefghi", 0, 9, 0, api.ErrRange},
		{"abcdefghi", 0, -1, 0, api.ErrRange},
		{"abcdefghi", 0, math.MaxInt, 0, api.ErrRange},
	} {
		if n, e := num.Get(c.s, c.at, c.width); n != c.want || e != c.e {
			t.Errorf("Get(%q, %d, %d) = %d, %d; want %d, %d", c.s, c.at, c.width, n, e, c.want, c.e)
		}
	}
}

func TestSet(t *testing.T) {
	for _, c := range []struct {
		s     string
		at    int
		n     uint64
		width int
		want  string
		e     api.Errno
	}{
		{"abc", 1, 122, 1, "azc", api.OK},
		{"abc", 0, 122, 1, "zbc", api.OK},
		{"abc", 2, 122, 1, "abz", api.OK},
		{"abc", 3, 122, 1, "", api.ErrForm},
		{"abc", 4, 122, 1, "", api.ErrForm},
		{"abc", -1, 122, 1, "", api.ErrForm},
		{"abc", math.MinInt, 122, 1, "", api.ErrForm},
		{"abc", math.MaxInt, 122, 8, "", api.ErrForm},
		{"abc", 1, 258, 2, "a\x01\x02", api.OK},
		{"abc", 2, 258, 2, "", api.ErrForm},
		{"abc", 0, 0, 3, "\x00\x00\x00", api.OK},
		{"abc", 0, 0, 4, "", api.ErrForm},
		{"abc", 0, 255, 1, "\xffbc", api.OK},
		{"abc", 0, 256, 1, "", api.ErrRange},
		{"abcdefgh", 0, math.MaxUint64, 8, "\xff\xff\xff\xff\xff\xff\xff\xff", api.OK},
		{"abcdefghi", 0, 0, 0, "", api.ErrRange},
		{"abcdefghi", 0, 0, 9, "", api.ErrRange},
		{"abcdefghi", 0, 0, -1, "", api.ErrRange},
		{"", 0, 0, 1, "", api.ErrForm},
	} {
		if s, e := num.Set(c.s, c.at, c.n, c.width); s != c.want || e != c.e {
			t.Errorf("Set(%q, %d, %d, %d) = %q, %d; want %q, %d", c.s, c.at, c.n, c.width, s, e, c.want, c.e)
		}
	}
}

func TestPad(t *testing.T) {
	whole := strings.Repeat("x", 65536)
	for _, c := range []struct {
		s    string
		n    int
		want string
		e    api.Errno
	}{
		{"a", 3, "a\x00\x00", api.OK},
		{"", 0, "", api.OK},
		{"", 1, "\x00", api.OK},
		{"a", 1, "a", api.OK},
		{"a\x00", 2, "a\x00", api.OK},
		{"a\x00b", 5, "a\x00b\x00\x00", api.OK},
		{"a", 0, "", api.ErrLong},
		{"\x00", 0, "", api.ErrLong},
		{"abc", 2, "", api.ErrLong},
		{"", -1, "", api.ErrRange},
		{"", math.MinInt, "", api.ErrRange},
		{"", math.MaxInt, "", api.ErrRange},
		{"", 65536, strings.Repeat("\x00", 65536), api.OK},
		{"", 65537, "", api.ErrRange},
		{whole, 65536, whole, api.OK},
		{whole, 65535, "", api.ErrLong},
		{whole + "x", 65536, "", api.ErrLong},
	} {
		if s, e := num.Pad(c.s, c.n); s != c.want || e != c.e {
			t.Errorf("Pad of %d bytes to %d: %d bytes, %d; want %d bytes, %d", len(c.s), c.n, len(s), e, len(c.want), c.e)
		}
	}
}

func TestTrim(t *testing.T) {
	for _, c := range []struct{ s, want string }{
		{"a\x00\x00", "a"},
		{"a\x00", "a"},
		{"a", "a"},
		{"", ""},
		{"\x00", ""},
		{"\x00\x00\x00", ""},
		{"\x00a", "\x00a"},
		{"a\x00b", "a\x00b"},
		{"\x00a\x00b\x00\x00", "\x00a\x00b"},
		{"a0", "a0"},
		{"a \x00", "a "},
		{"\xff\x00", "\xff"},
		{"\xc0\x80\x00", "\xc0\x80"},
		{strings.Repeat("\x00", 70000), ""},
		{strings.Repeat("x", 70000) + "\x00", strings.Repeat("x", 70000)},
	} {
		if s := num.Trim(c.s); s != c.want {
			t.Errorf("Trim of %d bytes: %d bytes, want %d", len(c.s), len(s), len(c.want))
		}
	}
}

func TestTrimOfPad(t *testing.T) {
	for _, s := range texts {
		padded, e := num.Pad(s, len(s)+5)
		if e != api.OK {
			t.Fatal(e)
		}
		if a, b := num.Trim(padded), num.Trim(s); a != b {
			t.Errorf("%q: %q padded, %q as it is", s, a, b)
		}
	}
}

// TestFirstError: where two errors apply the one that the call's sentence names first is answered, and beside it the zero value (R2).
func TestFirstError(t *testing.T) {
	for _, at := range []int{-1, 3, 9, math.MaxInt} {
		for _, width := range []int{-1, 0, 9} {
			if n, e := num.Get("abc", at, width); n != 0 || e != api.ErrRange {
				t.Errorf("Get at %d, width %d: %d, %d", at, width, n, e)
			}
			if s, e := num.Set("abc", at, 0, width); s != "" || e != api.ErrRange {
				t.Errorf("Set at %d, width %d: %q, %d", at, width, s, e)
			}
		}
		if s, e := num.Set("abc", at, 256, 1); s != "" || e != api.ErrRange {
			t.Errorf("Set at %d, of a number that doesn't fit: %q, %d", at, s, e)
		}
	}
	if s, e := num.Pad("a", -1); s != "" || e != api.ErrRange {
		t.Errorf("Pad to -1: %q, %d", s, e)
	}
	if s, e := num.Pad(strings.Repeat("x", 65538), 65537); s != "" || e != api.ErrRange {
		t.Errorf("Pad to 65537: %d bytes, %d", len(s), e)
	}
}

// TestGetOfPut: Get of Put is the number (P1.4), also where it stands within other bytes.
func TestGetOfPut(t *testing.T) {
	for _, n := range numbers() {
		for width := 1; width <= 8; width++ {
			s, e := num.Put(n, width)
			if e != api.OK {
				continue
			}
			for _, ahead := range []string{"", "\xff", "abc"} {
				if m, e := num.Get(ahead+s+"\xff", len(ahead), width); m != n || e != api.OK {
					t.Errorf("%d, width %d, behind %q: %d, %d", n, width, ahead, m, e)
				}
			}
			if whole, e := num.Set("0123456789", 1, n, width); e != api.OK {
				t.Errorf("Set of %d, width %d: %d", n, width, e)
			} else if m, e := num.Get(whole, 1, width); m != n || e != api.OK {
				t.Errorf("Get of Set of %d, width %d: %d, %d", n, width, m, e)
			}
		}
	}
}

// TestOrder: of two numbers of one width the lesser one's bytes come first (P1.4). Go holds texts against each other byte by byte.
func TestOrder(t *testing.T) {
	for width := 1; width <= 8; width++ {
		for _, a := range numbers() {
			for _, b := range numbers() {
				x, e1 := num.Put(a, width)
				y, e2 := num.Put(b, width)
				if e1 == api.OK && e2 == api.OK && (a < b) != (x < y) {
					t.Errorf("width %d: %d is %q, %d is %q", width, a, x, b, y)
				}
			}
		}
	}
}

// TestAllEdges holds every call against its model at all edges together: none panics, and each answers what the model answers (R1, R2).
func TestAllEdges(t *testing.T) {
	for _, n := range numbers() {
		for _, width := range widths {
			checkPut(t, n, width)
		}
	}
	for _, s := range texts {
		for _, at := range append([]int{len(s) - 8, len(s) - 2, len(s) - 1, len(s), len(s) + 1}, places...) {
			for _, width := range widths {
				checkGet(t, s, at, width)
				for _, n := range numbers() {
					checkSet(t, s, at, n, width)
				}
			}
		}
		for _, n := range append([]int{len(s) - 1, len(s), len(s) + 1}, lengths...) {
			checkPad(t, s, n)
		}
	}
}

// TestManyInputs does so at inputs drawn from a fixed seed.
func TestManyInputs(t *testing.T) {
	r := rand.New(rand.NewSource(1))
	for range 20000 {
		b := make([]byte, r.Intn(12))
		for i := range b {
			b[i] = byte(r.Intn(256)) * byte(r.Intn(2))
		}
		s, at, width, n := string(b), r.Intn(16)-2, r.Intn(11)-1, r.Uint64()>>r.Intn(64)
		checkPut(t, n, width)
		checkGet(t, s, at, width)
		checkSet(t, s, at, n, width)
		checkPad(t, s, r.Intn(20)-2)
		if got, want := num.Trim(s), strings.TrimRight(s, "\x00"); got != want {
			t.Errorf("Trim(%q) = %q", s, got)
		}
	}
}

func checkPut(t *testing.T, n uint64, width int) {
	t.Helper()
	want, we := modelPut(n, width)
	if s, e := num.Put(n, width); s != want || e != we {
		t.Errorf("Put(%d, %d) = %q, %d; want %q, %d", n, width, s, e, want, we)
	}
}

func checkGet(t *testing.T, s string, at, width int) {
	t.Helper()
	want, we := modelGet(s, at, width)
	if n, e := num.Get(s, at, width); n != want || e != we {
		t.Errorf("Get(%q, %d, %d) = %d, %d; want %d, %d", s, at, width, n, e, want, we)
	}
}

func checkSet(t *testing.T, s string, at int, n uint64, width int) {
	t.Helper()
	want, we := modelSet(s, at, n, width)
	if got, e := num.Set(s, at, n, width); got != want || e != we {
		t.Errorf("Set(%q, %d, %d, %d) = %q, %d; want %q, %d", s, at, n, width, got, e, want, we)
	}
}

func checkPad(t *testing.T, s string, n int) {
	t.Helper()
	want, we := "", api.OK
	switch {
	case n < 0 || n > 65536:
		we = api.ErrRange
	case len(s) > n:
		we = api.ErrLong
	default:
		want = s + strings.Repeat("\x00", n-len(s))
	}
	if got, e := num.Pad(s, n); got != want || e != we {
		t.Errorf("Pad(%q, %d): %d bytes, %d; want %d bytes, %d", s, n, len(got), e, len(want), we)
	}
}

// shares tells whether two texts have a byte of memory in common.
func shares(a, b string) bool {
	if a == "" || b == "" {
		return false
	}
	x, y := uintptr(unsafe.Pointer(unsafe.StringData(a))), uintptr(unsafe.Pointer(unsafe.StringData(b)))
	return x < y+uintptr(len(b)) && y < x+uintptr(len(a))
}

// TestNewMemory: what is answered shares no memory with what is handed in or was answered earlier (R4), also where it is the same text.
func TestNewMemory(t *testing.T) {
	s := strings.Clone("abcdefgh\x00i")
	answers := map[string]func() string{
		"Put":               func() string { b, _ := num.Put(0x6162, 2); return b },
		"Set":               func() string { b, _ := num.Set(s, 0, 0x6162, 2); return b },
		"Set of all of it":  func() string { b, _ := num.Set(s[:8], 0, 0x6162636465666768, 8); return b },
		"Pad":               func() string { b, _ := num.Pad(s, 20); return b },
		"Pad to its length": func() string { b, _ := num.Pad(s, len(s)); return b },
		"Trim":              func() string { return num.Trim(s[:9]) },
		"Trim without a 0":  func() string { return num.Trim(s) },
		"Trim of a piece":   func() string { return num.Trim(s[2:9]) },
	}
	for call, answer := range answers {
		a, b := answer(), answer()
		if a == "" || a != b {
			t.Errorf("%s: %q, then %q", call, a, b)
		}
		if shares(a, s) || shares(b, s) || shares(a, b) {
			t.Errorf("%s: shared memory", call)
		}
	}
	if s != "abcdefgh\x00i" {
		t.Errorf("what was handed in is now %q", s)
	}
}
