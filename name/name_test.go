package name_test

import (
	"math"
	"math/big"
	"math/rand"
	"regexp"
	"slices"
	"strings"
	"testing"
	"unsafe"

	"aumbry/api"
	"aumbry/name"
)

var (
	symbolForm   = regexp.MustCompile(`\A[a-z][a-z0-9]{0,7}\z`)
	variableForm = regexp.MustCompile(`\A[A-Z][A-Z0-9]{0,7}\z`)
	numberForm   = regexp.MustCompile(`\A(0|-?[1-9][0-9]*)\z`)
)

// modelKind reads the chapter's sentence as a pattern.
func modelKind(s string) int {
	switch {
	case symbolForm.MatchString(s):
		return name.Symbol
	case variableForm.MatchString(s):
		return name.Variable
	}
	return name.None
}

// modelWords goes through the bytes, and ends a word at each blank and at the end.
func modelWords(s string) []string {
	var words []string
	var word []byte
	for _, c := range append([]byte(s), ' ') {
		if c != ' ' {
			word = append(word, c)
		} else if len(word) > 0 {
			words = append(words, string(word))
			word = nil
		}
	}
	return words
}

// modelNumber reads in numbers that have no end, and holds the range against them.
func modelNumber(s string) (int64, api.Errno) {
	if !numberForm.MatchString(s) {
		return 0, api.ErrNumber
	}
	n, ok := new(big.Int).SetString(s, 10)
	if !ok || !n.IsInt64() {
		return 0, api.ErrNumber
	}
	return n.Int64(), api.OK
}

// everyText answers all texts of up to most bytes of signs.
func everyText(signs string, most int) []string {
	all, last := []string{""}, []string{""}
	for range most {
		var next []string
		for _, s := range last {
			for i := range len(signs) {
				next = append(next, s+signs[i:i+1])
			}
		}
		all = append(all, next...)
		last = next
	}
	return all
}

func TestKind(t *testing.T) {
	for _, c := range []struct {
		s    string
		want int
	}{
		{"plus2", name.Symbol}, {"X", name.Variable}, {"Xa", name.None}, {"2a", name.None}, {"abcdefghi", name.None},
		// The empty text, and 1, 8 and 9 bytes.
		{"", name.None},
		{"a", name.Symbol}, {"z", name.Symbol}, {"A", name.Variable}, {"Z", name.Variable},
		{"abcdefgh", name.Symbol}, {"ABCDEFGH", name.Variable}, {"a1234567", name.Symbol}, {"Z9999999", name.Variable},
		{"ABCDEFGHI", name.None}, {"a12345678", name.None}, {"A12345678", name.None},
		{strings.Repeat("a", 300), name.None}, {strings.Repeat("A", 300), name.None},
		// Digits first, last and alone.
		{"0", name.None}, {"9", name.None}, {"12", name.None}, {"2A", name.None}, {"0abcdefg", name.None},
		{"a0", name.Symbol}, {"a9", name.Symbol}, {"A0", name.Variable}, {"A9", name.Variable}, {"a0b", name.Symbol}, {"A0B", name.Variable}, {"a0B", name.None},
		// Both cases.
		{"aB", name.None}, {"Ab", name.None}, {"abcdefgH", name.None}, {"ABCDEFGh", name.None}, {"abCd", name.None}, {"ABcD", name.None},
		// Other signs, first, between and last.
		{" ", name.None}, {" a", name.None}, {"a ", name.None}, {"a b", name.None}, {"_", name.None}, {"a_", name.None}, {"_a", name.None}, {"a_b", name.None}, {"__", name.None}, {"a-b", name.None},
		{"a\n", name.None}, {"\na", name.None}, {"a\t", name.None}, {"a\x00", name.None}, {"\x00", name.None}, {"\x00\x00", name.None},
		// More than one byte a letter, and none at all.
		{"é", name.None}, {"aé", name.None}, {"É", name.None}, {"\xff", name.None}, {"a\xff", name.None}, {"\xe1", name.None}, {"\xc1", name.None}, {"ａ", name.None},
	} {
		if k := name.Kind(c.s); k != c.want {
			t.Errorf("Kind(%q) = %d, want %d", c.s, k, c.want)
		}
	}
}

// TestKindOfEachByte lays each of the 256 bytes at each place of names of every length up to one too many: those just outside a to z, A to Z and 0 to 9 are among them, and all above 127.
func TestKindOfEachByte(t *testing.T) {
	for _, fill := range []string{"a", "z", "A", "Z", "0", "9"} {
		for n := range api.MaxName + 2 {
			for at := range n {
				b := []byte(strings.Repeat(fill, n))
				for c := range 256 {
					b[at] = byte(c)
					if k, want := name.Kind(string(b)), modelKind(string(b)); k != want {
						t.Errorf("Kind(%q) = %d, want %d", b, k, want)
					}
				}
			}
		}
	}
}

func TestKindOfEveryShortText(t *testing.T) {
	for _, s := range everyText("/09:@AZ[`az{ \x80\xff", 4) {
		if k, want := name.Kind(s), modelKind(s); k != want {
			t.Errorf("Kind(%q) = %d, want %d", s, k, want)
		}
	}
}

func TestWords(t *testing.T) {
	for _, c := range []struct {
		s    string
		want []string
	}{
		{" a  b ", []string{"a", "b"}},
		{"", nil}, {" ", nil}, {"  ", nil}, {strings.Repeat(" ", 300), nil},
		{"a", []string{"a"}}, {" a", []string{"a"}}, {"a ", []string{"a"}}, {"   a", []string{"a"}}, {"a   ", []string{"a"}}, {"   a   ", []string{"a"}},
		{"a b", []string{"a", "b"}}, {"a  b", []string{"a", "b"}}, {"a    b", []string{"a", "b"}}, {"b a b", []string{"b", "a", "b"}},
		{"norm plus(s(zero),zero) 8", []string{"norm", "plus(s(zero),zero)", "8"}},
		{"a a a", []string{"a", "a", "a"}},
		// Tabs, line ends and the other white signs are no blanks.
		{"\t", []string{"\t"}}, {"\n", []string{"\n"}}, {"\r\n", []string{"\r\n"}}, {"a\tb", []string{"a\tb"}}, {"a\nb c", []string{"a\nb", "c"}}, {" \t \n ", []string{"\t", "\n"}},
		{"\va\fb\r", []string{"\va\fb\r"}}, {"a\x00b", []string{"a\x00b"}}, {"a\u00a0b", []string{"a\u00a0b"}}, {"a\u0085b", []string{"a\u0085b"}}, {"a\u2003b", []string{"a\u2003b"}}, {"a\u3000b", []string{"a\u3000b"}},
		{"a\x1fb\x21c", []string{"a\x1fb\x21c"}},
		// Bytes that are no text of runes.
		{"\xff \xc3 \x80", []string{"\xff", "\xc3", "\x80"}}, {"\xc3 a", []string{"\xc3", "a"}}, {"é ü", []string{"é", "ü"}}, {"\xe2\x82 \xac", []string{"\xe2\x82", "\xac"}},
	} {
		if words := name.Words(c.s); !slices.Equal(words, c.want) {
			t.Errorf("Words(%q) = %q, want %q", c.s, words, c.want)
		}
	}
	for _, s := range everyText(" a\t\n\xa0\xc2", 6) {
		if words, want := name.Words(s), modelWords(s); !slices.Equal(words, want) {
			t.Errorf("Words(%q) = %q, want %q", s, words, want)
		}
	}
}

// TestWordsOfEachByte: byte 32 parts words, and no other byte does.
func TestWordsOfEachByte(t *testing.T) {
	for c := range 256 {
		s := "a" + string([]byte{byte(c)}) + "b"
		want := []string{s}
		if c == 32 {
			want = []string{"a", "b"}
		}
		if words := name.Words(s); !slices.Equal(words, want) {
			t.Errorf("Words(%q) = %q, want %q", s, words, want)
		}
	}
}

func TestNumber(t *testing.T) {
	for _, c := range []struct {
		s    string
		want int64
	}{
		{"0", 0}, {"1", 1}, {"-1", -1}, {"9", 9}, {"10", 10}, {"-10", -10}, {"100", 100}, {"-12", -12}, {"1234567890", 1234567890},
		{"2147483647", math.MaxInt32}, {"2147483648", math.MaxInt32 + 1}, {"-2147483648", math.MinInt32}, {"-2147483649", math.MinInt32 - 1},
		{"9223372036854775806", math.MaxInt64 - 1}, {"9223372036854775807", math.MaxInt64},
		{"-9223372036854775807", math.MinInt64 + 1}, {"-9223372036854775808", math.MinInt64},
		{"1000000000000000000", 1e18}, {"-1000000000000000000", -1e18},
	} {
		if n, e := name.Number(c.s); n != c.want || e != api.OK {
			t.Errorf("Number(%q) = %d, %v, want %d", c.s, n, e, c.want)
		}
		if s := name.Write(c.want); s != c.s {
			t.Errorf("Write(%d) = %q, want %q", c.want, s, c.s)
		}
	}
}

func TestNoNumber(t *testing.T) {
	far := strings.Repeat("9", 1000)
	for _, s := range []string{
		"", "-", "--", "--1", "-0", "-00", "00", "01", "-01", "007", "0000000000000000000000", "+1", "+0", "+", "-+1", "+-1", "+9223372036854775807",
		// Just outside the range, and where it would wrap round to a number inside.
		"9223372036854775808", "9223372036854775809", "-9223372036854775809", "-9223372036854775810", "9223372036854775810",
		"10000000000000000000", "-10000000000000000000", "18446744073709551615", "18446744073709551616", "18446744073709551617", "-18446744073709551615", "36893488147419103233",
		// Far more digits, wrong ones behind them too.
		"99999999999999999999999", "-99999999999999999999999", far, "-" + far, far + "x", "1" + strings.Repeat("0", 64), "0" + strings.Repeat("0", 64) + "1",
		// Blanks and signs inside and around.
		" ", " 1", "1 ", " 1 ", "1 0", "- 1", "1-", "1-1", "1+1", "1,000", "1_0", "_1", "1_", "1.0", "1.", ".1", "1e3", "1E3", "0x10", "0b1", "0o7", "0X1", "x", "a1", "1a", "A",
		"1\n", "\n1", "1\t", "1\x00", "\x001", "\x00", "1\xff", "\xff", "-\x00", "/", ":", "1/", "1:", "Inf", "NaN", "−1", "１", "٣", "\xb2",
	} {
		if n, e := name.Number(s); n != 0 || e != api.ErrNumber {
			t.Errorf("Number(%.40q) = %d, %v, want ErrNumber", s, n, e)
		}
	}
}

// TestEdgesOfTheRange goes some way to both sides of either end, and of each power of 2 and of 10.
func TestEdgesOfTheRange(t *testing.T) {
	var middles []*big.Int
	for i := range 130 {
		middles = append(middles, new(big.Int).Lsh(big.NewInt(1), uint(i)), new(big.Int).Exp(big.NewInt(10), big.NewInt(int64(i)), nil))
	}
	for _, middle := range middles {
		for off := range int64(25) {
			n := new(big.Int).Add(middle, big.NewInt(off-12))
			for _, text := range []string{n.String(), n.Neg(n).String()} {
				got, e := name.Number(text)
				if want, wantE := modelNumber(text); got != want || e != wantE {
					t.Errorf("Number(%q) = %d, %v, want %d, %v", text, got, e, want, wantE)
				}
			}
		}
	}
}

// TestOneTextANumber: Number of Write is the number, and no other text is read as it (P3.4): so a text that is read is the one that is written.
func TestOneTextANumber(t *testing.T) {
	readAs := map[int64]string{}
	for _, s := range everyText("-+0129 _\n", 6) {
		n, e := name.Number(s)
		if want, wantE := modelNumber(s); n != want || e != wantE {
			t.Fatalf("Number(%q) = %d, %v, want %d, %v", s, n, e, want, wantE)
		}
		if e != api.OK {
			continue
		}
		if other, twice := readAs[n]; twice {
			t.Errorf("%q and %q are both read as %d", other, s, n)
		}
		readAs[n] = s
		if w := name.Write(n); w != s {
			t.Errorf("Write(%d) = %q, but %q is read as it", n, w, s)
		}
	}
	edges := []int64{math.MinInt64, math.MinInt64 + 1, math.MaxInt64, math.MaxInt64 - 1}
	for n := range int64(3000) {
		edges = append(edges, n, -n, math.MaxInt64-n, math.MinInt64+n)
	}
	for i := range 63 {
		edges = append(edges, 1<<i, -1<<i, 1<<i-1, -1<<i+1)
	}
	for _, n := range edges {
		s := name.Write(n)
		if want := big.NewInt(n).String(); s != want {
			t.Errorf("Write(%d) = %q, want %q", n, s, want)
		}
		if m, e := name.Number(s); m != n || e != api.OK {
			t.Errorf("Number(%q) = %d, %v, want %d", s, m, e, n)
		}
		for _, other := range []string{"0" + s, "+" + s, " " + s, s + " ", s + ".", "-0" + strings.TrimPrefix(s, "-"), "--" + strings.TrimPrefix(s, "-")} {
			if m, e := name.Number(other); m != 0 || e != api.ErrNumber {
				t.Errorf("Number(%q) = %d, %v, want ErrNumber", other, m, e)
			}
		}
	}
}

// TestManyInputs holds every call against its model at inputs drawn from a fixed seed, each asked twice (R1, R5).
func TestManyInputs(t *testing.T) {
	r := rand.New(rand.NewSource(3))
	signs := []string{"abcxyz0123456789", "ABCXYZ0123456789", "azAZ09", "0123456789", "-0123456789", " ab", " \t\na", "-+ 019"}
	for range 30000 {
		from := signs[r.Intn(len(signs))]
		b := make([]byte, r.Intn(24))
		for i := range b {
			b[i] = from[r.Intn(len(from))]
			if r.Intn(60) == 0 {
				b[i] = byte(r.Intn(256))
			}
		}
		s, n := string(b), int64(r.Uint64())>>r.Intn(64)
		for range 2 {
			if k, want := name.Kind(s), modelKind(s); k != want {
				t.Errorf("Kind(%q) = %d, want %d", s, k, want)
			}
			if words, want := name.Words(s), modelWords(s); !slices.Equal(words, want) {
				t.Errorf("Words(%q) = %q, want %q", s, words, want)
			}
			got, e := name.Number(s)
			if want, wantE := modelNumber(s); got != want || e != wantE {
				t.Errorf("Number(%q) = %d, %v, want %d, %v", s, got, e, want, wantE)
			}
			if w, want := name.Write(n), big.NewInt(n).String(); w != want {
				t.Errorf("Write(%d) = %q, want %q", n, w, want)
			}
		}
	}
}

// TestLongTexts: every call ends at texts far beyond a line's length (R1).
func TestLongTexts(t *testing.T) {
	const many = 1 << 20
	for _, s := range []string{strings.Repeat("a", many), strings.Repeat(" ", many), strings.Repeat("a ", many), strings.Repeat("9", many), "-" + strings.Repeat("0", many), strings.Repeat("\xff", many)} {
		if k := name.Kind(s); k != name.None {
			t.Errorf("Kind of %d bytes %.5q: %d", len(s), s, k)
		}
		if n, e := name.Number(s); n != 0 || e != api.ErrNumber {
			t.Errorf("Number of %d bytes %.5q: %d, %v", len(s), s, n, e)
		}
		if words := name.Words(s); !slices.Equal(words, modelWords(s)) {
			t.Errorf("Words of %d bytes %.5q: %d words", len(s), s, len(words))
		}
	}
}

func shares(a, b string) bool {
	if a == "" || b == "" {
		return false
	}
	x, y := uintptr(unsafe.Pointer(unsafe.StringData(a))), uintptr(unsafe.Pointer(unsafe.StringData(b)))
	return x < y+uintptr(len(b)) && y < x+uintptr(len(a))
}

// TestNewMemory: what is answered shares no memory with what is handed in or was answered earlier (R4), and an answer that is written over moves no later one.
func TestNewMemory(t *testing.T) {
	for _, line := range []string{"one", " a one  a ", "one two one"} {
		s := strings.Clone(line)
		first, second := name.Words(s), name.Words(s)
		for _, w := range slices.Concat(first, second) {
			if shares(w, s) {
				t.Errorf("Words(%q): %q is a piece of it", s, w)
			}
		}
		for i := range first {
			for j := range second {
				if shares(first[i], second[j]) || i != j && shares(first[i], first[j]) {
					t.Errorf("Words(%q): words %d and %d share memory", s, i, j)
				}
			}
		}
		clear(first[:cap(first)])
		if !slices.Equal(second, modelWords(line)) || !slices.Equal(name.Words(s), second) || s != line {
			t.Errorf("Words(%q): an answer that was written over is seen elsewhere", line)
		}
	}
	for _, n := range []int64{0, 7, 42, 99, 100, -5, math.MaxInt64, math.MinInt64} {
		a, b := name.Write(n), name.Write(n)
		if a != b || shares(a, b) {
			t.Errorf("Write(%d): %q, then %q, in shared memory or unlike", n, a, b)
		}
	}
}
