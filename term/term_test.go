package term_test

import (
	"math"
	"math/rand"
	"regexp"
	"slices"
	"strings"
	"testing"
	"unsafe"

	"aumbry/api"
	"aumbry/term"
)

var (
	symbolForm   = regexp.MustCompile(`\A[a-z][a-z0-9]{0,7}\z`)
	variableForm = regexp.MustCompile(`\A[A-Z][A-Z0-9]{0,7}\z`)
	pieceForm    = regexp.MustCompile(`\A[A-Za-z0-9]+`)
)

// tree is a term as the models see it: each part holds its arguments.
type tree struct {
	name string
	kids []*tree
}

func leaf(name string) *tree                { return &tree{name: name} }
func node(name string, kids ...*tree) *tree { return &tree{name, kids} }

// tower is n cells within one another.
func tower(n int) *tree {
	if n <= 1 {
		return leaf("a")
	}
	return node("s", tower(n-1))
}

// cells are those of a tree, each ahead of its arguments'.
func (x *tree) cells() api.Term {
	t := api.Term{{Name: x.name, Arity: len(x.kids)}}
	for _, kid := range x.kids {
		t = append(t, kid.cells()...)
	}
	return t
}

func (x *tree) text() string {
	if len(x.kids) == 0 {
		return x.name
	}
	var texts []string
	for _, kid := range x.kids {
		texts = append(texts, kid.text())
	}
	return x.name + "(" + strings.Join(texts, ",") + ")"
}

func (x *tree) depth() int {
	deepest := 0
	for _, kid := range x.kids {
		deepest = max(deepest, kid.depth())
	}
	return deepest + 1
}

func (x *tree) vars(seen []string) []string {
	if variableForm.MatchString(x.name) && !slices.Contains(seen, x.name) {
		seen = append(seen, x.name)
	}
	for _, kid := range x.kids {
		seen = kid.vars(seen)
	}
	return seen
}

// ends are the places behind the term that begins at each cell, when the first one stands at at.
func (x *tree) ends(at int) []int {
	l := []int{at + len(x.cells())}
	at++
	for _, kid := range x.kids {
		l = append(l, kid.ends(at)...)
		at += len(kid.cells())
	}
	return l
}

// modelTree builds the tree of t from its last cell on: each takes its arguments off what lies there. It answers nil if the cells are not just one term.
func modelTree(t api.Term) *tree {
	var lie []*tree
	for _, c := range slices.Backward(t) {
		if c.Arity > len(lie) {
			return nil
		}
		x := leaf(c.Name)
		for range c.Arity {
			x.kids = append(x.kids, lie[len(lie)-1])
			lie = lie[:len(lie)-1]
		}
		lie = append(lie, x)
	}
	if len(lie) != 1 {
		return nil
	}
	return lie[0]
}

func modelCheck(t api.Term) api.Errno {
	if len(t) >= 65 {
		return api.ErrBig
	}
	for _, c := range t {
		symbol, variable := symbolForm.MatchString(c.Name), variableForm.MatchString(c.Name)
		if !symbol && !variable {
			return api.ErrName
		}
		if may := c.Arity == 0 || symbol && c.Arity >= 1 && c.Arity <= 4; !may {
			return api.ErrArity
		}
	}
	if modelTree(t) == nil {
		return api.ErrForm
	}
	return api.OK
}

// modelParse reads without a call within another: what is open lies on a heap, and what stands behind a term is told by the topmost.
func modelParse(s string) (api.Term, int, api.Errno) {
	if len(s) >= 1025 {
		return nil, 0, api.ErrLong
	}
	var t api.Term
	var open []int
	at := 0
	for {
		piece := pieceForm.FindString(s[at:])
		variable := variableForm.MatchString(piece)
		switch {
		case piece == "":
			return nil, at, api.ErrForm
		case !variable && !symbolForm.MatchString(piece):
			return nil, at, api.ErrName
		case len(t) == 64:
			return nil, at, api.ErrBig
		}
		t = append(t, api.Cell{Name: piece})
		at += len(piece)
		if strings.HasPrefix(s[at:], "(") {
			if variable {
				return nil, at, api.ErrArity
			}
			open = append(open, len(t)-1)
			at++
			continue
		}
		for len(open) > 0 {
			t[open[len(open)-1]].Arity++
			if !strings.HasPrefix(s[at:], ")") {
				break
			}
			open = open[:len(open)-1]
			at++
		}
		switch {
		case len(open) == 0 && at == len(s):
			return t, 0, api.OK
		case len(open) == 0 || !strings.HasPrefix(s[at:], ","):
			return nil, at, api.ErrForm
		case t[open[len(open)-1]].Arity == 4:
			return nil, at, api.ErrArity
		}
		at++
	}
}

// everyList answers all lists of up to most of the things.
func everyList[T any](things []T, most int) [][]T {
	all, last := [][]T{nil}, [][]T{nil}
	for range most {
		var next [][]T
		for _, l := range last {
			for _, thing := range things {
				next = append(next, append(slices.Clone(l), thing))
			}
		}
		all = append(all, next...)
		last = next
	}
	return all
}

// grow answers a tree of n cells, drawn from r.
func grow(r *rand.Rand, n int) *tree {
	if n == 1 {
		return leaf([]string{"a", "b2", "zero", "abcdefgh", "X", "Y", "Y1", "ABCDEFGH", "Z"}[r.Intn(9)])
	}
	x := leaf([]string{"f", "g", "plus", "s", "a", "a1234567"}[r.Intn(6)])
	rest := n - 1
	for k := min(rest, 1+r.Intn(4)); k > 0; k-- {
		part := rest
		if k > 1 {
			part = 1 + r.Intn(rest-k+1)
		}
		x.kids = append(x.kids, grow(r, part))
		rest -= part
	}
	return x
}

// trees are of every size up to the greatest, many of each, from a fixed seed, and some of forms that are rarely drawn.
func trees() []*tree {
	r := rand.New(rand.NewSource(4))
	l := []*tree{leaf("a"), leaf("X"), node("f", leaf("X"), leaf("X"), leaf("Y"), leaf("X")), node("f", leaf("f"))}
	for n := 1; n <= api.MaxCells; n++ {
		l = append(l, tower(n))
		for range 40 {
			l = append(l, grow(r, n))
		}
	}
	full := leaf("abcdefgh")
	for range 4 {
		full = node("abcdefgh", full, leaf("abcdefgh"), full, leaf("ABCDEFGH"))
	}
	wide := node("h", node("h", leaf("a"), leaf("b"), leaf("c"), leaf("d")), leaf("e"), tower(20), tower(37))
	return append(l, full, wide)
}

func cell(name string, arity int) api.Cell { return api.Cell{Name: name, Arity: arity} }

// holdAgainst checks what every call of a list of cells answers against its tree, or the error that it is to have.
func holdAgainst(t *testing.T, cells api.Term) {
	t.Helper()
	want := modelCheck(cells)
	if e := term.Check(cells); e != want {
		t.Errorf("Check(%v) = %v, want %v", cells, e, want)
	}
	var x tree
	var text string
	var vars []string
	var deep int
	ends := make([]int, len(cells))
	if want == api.OK {
		x = *modelTree(cells)
		text, vars, deep, ends = x.text(), x.vars(nil), x.depth(), x.ends(0)
	}
	if s, e := term.Print(cells); s != text || e != want {
		t.Errorf("Print(%v) = %q, %v, want %q, %v", cells, s, e, text, want)
	}
	if v, e := term.Vars(cells); !slices.Equal(v, vars) || e != want {
		t.Errorf("Vars(%v) = %q, %v, want %q, %v", cells, v, e, vars, want)
	}
	if n, e := term.Depth(cells); n != deep || e != want {
		t.Errorf("Depth(%v) = %d, %v, want %d, %v", cells, n, e, deep, want)
	}
	kids, e := term.Kids(cells)
	if len(kids) != len(x.kids) || e != want {
		t.Fatalf("Kids(%v) = %v, %v, want %d of them, %v", cells, kids, e, len(x.kids), want)
	}
	for i, kid := range x.kids {
		if !slices.Equal(kids[i], kid.cells()) {
			t.Errorf("Kids(%v)[%d] = %v, want %v", cells, i, kids[i], kid.cells())
		}
	}
	for at, end := range ends {
		if n := term.End(cells, at); n != end {
			t.Errorf("End(%v, %d) = %d, want %d", cells, at, n, end)
		}
	}
	for _, at := range []int{-1, -2, -65, len(cells), len(cells) + 1, 64, 65, 1 << 40, math.MinInt, math.MaxInt} {
		if n := term.End(cells, at); n != 0 && (at < 0 || at >= len(cells)) {
			t.Errorf("End(%v, %d) = %d, want 0", cells, at, n)
		}
	}
}

func TestExample(t *testing.T) {
	x, at, e := term.Parse("f(a,X)")
	if want := (api.Term{cell("f", 2), cell("a", 0), cell("X", 0)}); !slices.Equal(x, want) || at != 0 || e != api.OK {
		t.Fatalf("Parse: %v, %d, %v", x, at, e)
	}
	if n, e := term.Depth(x); n != 2 || e != api.OK {
		t.Errorf("Depth: %d, %v", n, e)
	}
	for at, want := range []int{3, 2, 3, 0} {
		if n := term.End(x, at); n != want {
			t.Errorf("End at %d: %d, want %d", at, n, want)
		}
	}
	if kids, e := term.Kids(x); e != api.OK || len(kids) != 2 || !slices.Equal(kids[0], api.Term{cell("a", 0)}) || !slices.Equal(kids[1], api.Term{cell("X", 0)}) {
		t.Errorf("Kids: %v, %v", kids, e)
	}
	if vars, e := term.Vars(x); !slices.Equal(vars, []string{"X"}) || e != api.OK {
		t.Errorf("Vars: %q, %v", vars, e)
	}
	if s, e := term.Print(x); s != "f(a,X)" || e != api.OK {
		t.Errorf("Print: %q, %v", s, e)
	}
}

func TestCheck(t *testing.T) {
	a, none, wrong := cell("a", 0), cell("aX", 0), cell("a", 5)
	many := func(n int, c api.Cell) api.Term { return slices.Repeat(api.Term{c}, n) }
	for _, c := range []struct {
		what string
		t    api.Term
		want api.Errno
	}{
		{"no list", nil, api.ErrForm}, {"no cells", api.Term{}, api.ErrForm},
		{"a symbol", api.Term{a}, api.OK}, {"a variable", api.Term{cell("X", 0)}, api.OK},
		{"the longest names", api.Term{cell("abcdefgh", 1), cell("ABCDEFGH", 0)}, api.OK},
		{"64 cells", tower(64).cells(), api.OK}, {"65 cells", tower(65).cells(), api.ErrBig},
		{"64 cells, no term", many(64, a), api.ErrForm}, {"65 cells, no term", many(65, a), api.ErrBig},
		{"65 wrong names", many(65, none), api.ErrBig}, {"65 wrong arities", many(65, wrong), api.ErrBig}, {"65 empty cells", make(api.Term, 65), api.ErrBig}, {"1000 cells", many(1000, a), api.ErrBig},
		{"64 wrong names", many(64, none), api.ErrName}, {"64 empty cells", make(api.Term, 64), api.ErrName},
		// Names.
		{"no name", api.Term{{}}, api.ErrName}, {"both cases", api.Term{none}, api.ErrName}, {"a digit first", api.Term{cell("2a", 0)}, api.ErrName}, {"nine bytes", api.Term{cell("abcdefghi", 0)}, api.ErrName},
		{"a text of a term", api.Term{cell("f(a)", 0)}, api.ErrName}, {"a blank", api.Term{cell("a ", 0)}, api.ErrName}, {"a great byte", api.Term{cell("\xe1", 0)}, api.ErrName},
		// Arities.
		{"arity -1", api.Term{cell("a", -1)}, api.ErrArity}, {"arity 5", append(api.Term{wrong}, many(5, a)...), api.ErrArity}, {"arity 4", append(api.Term{cell("a", 4)}, many(4, a)...), api.OK},
		{"least arity", api.Term{cell("a", math.MinInt)}, api.ErrArity}, {"greatest arity", api.Term{cell("a", math.MaxInt)}, api.ErrArity},
		{"arities that wrap round to one term", api.Term{cell("a", math.MaxInt), cell("a", math.MaxInt), cell("a", 4)}, api.ErrArity},
		{"arities that sum up to one term", api.Term{cell("a", 2), cell("a", -1), a}, api.ErrArity},
		{"a variable's arity 1", api.Term{cell("X", 1), a}, api.ErrArity}, {"a variable's arity 4", append(api.Term{cell("X", 4)}, many(4, a)...), api.ErrArity}, {"a variable's arity -1", api.Term{cell("X", -1)}, api.ErrArity},
		// Cells too few and too many.
		{"none behind s/1", api.Term{cell("s", 1)}, api.ErrForm}, {"three behind f/4", append(api.Term{cell("f", 4)}, many(3, a)...), api.ErrForm}, {"five behind f/4", append(api.Term{cell("f", 4)}, many(5, a)...), api.ErrForm},
		{"two terms", api.Term{a, a}, api.ErrForm}, {"a variable and a term", api.Term{cell("X", 0), a}, api.ErrForm}, {"a term, then too few", api.Term{a, cell("s", 1)}, api.ErrForm}, {"two terms that would do as a whole", api.Term{a, cell("f", 2), a}, api.ErrForm},
		{"too few deep inside", api.Term{cell("f", 2), cell("s", 1), cell("s", 1), a}, api.ErrForm},
		// Of several faults, cell by cell, the name ahead of the arity, both ahead of the form.
		{"name and arity of one cell", api.Term{cell("", 5)}, api.ErrName}, {"name and arity of one cell, -1", api.Term{cell("aX", -1)}, api.ErrName},
		{"arity, then a name", api.Term{wrong, none}, api.ErrArity}, {"name, then an arity", api.Term{none, wrong}, api.ErrName},
		{"a variable's arity, then a name", api.Term{cell("X", 1), none}, api.ErrArity},
		{"form, then a name", api.Term{a, a, none}, api.ErrName}, {"form, then an arity", api.Term{a, a, wrong}, api.ErrArity}, {"too few, an arity last", api.Term{cell("f", 4), wrong}, api.ErrArity}, {"too few, a name last", api.Term{cell("f", 4), none}, api.ErrName},
		{"the last of 64", append(many(63, a), none), api.ErrName}, {"the arity of the last of 64", append(many(63, a), wrong), api.ErrArity},
	} {
		if e := term.Check(c.t); e != c.want {
			t.Errorf("Check of %s: %v, want %v", c.what, e, c.want)
		}
		holdAgainst(t, c.t)
	}
}

// TestEveryShortList goes through all lists of a few cells, wrong ones among them, and through longer ones of right cells alone.
func TestEveryShortList(t *testing.T) {
	var any []api.Cell
	for _, name := range []string{"a", "X", "", "aX"} {
		for _, arity := range []int{-1, 0, 1, 4, 5} {
			any = append(any, cell(name, arity))
		}
	}
	right := []api.Cell{cell("a", 0), cell("X", 0), cell("s", 1), cell("f", 2), cell("g", 3)}
	for _, l := range append(everyList(any, 3), everyList(right, 6)...) {
		holdAgainst(t, l)
	}
}

func TestParseFaults(t *testing.T) {
	const top = "s("
	names := strings.Repeat("a", 1024)
	for _, c := range []struct {
		s    string
		at   int
		want api.Errno
	}{
		{"f()", 2, api.ErrForm}, {"X(a)", 1, api.ErrArity}, {"f(a", 3, api.ErrForm}, {"a b", 1, api.ErrForm}, {"fX", 0, api.ErrName},
		// Long texts: 1024 bytes are read, 1025 are not, whatever stands in them.
		{names, 0, api.ErrName}, {names + "a", 0, api.ErrLong}, {strings.Repeat(" ", 1024), 0, api.ErrForm}, {strings.Repeat(" ", 1025), 0, api.ErrLong},
		{"a" + strings.Repeat(")", 1023), 1, api.ErrForm}, {"a" + strings.Repeat(")", 1024), 0, api.ErrLong}, {strings.Repeat(top, 512), 128, api.ErrBig}, {strings.Repeat(top, 512) + "a", 0, api.ErrLong},
		{"f(a," + strings.Repeat("b", 1020), 4, api.ErrName}, {"f(a," + strings.Repeat("b", 1021), 0, api.ErrLong}, {strings.Repeat("x", 1<<20), 0, api.ErrLong},
		// No name where a term must stand.
		{"", 0, api.ErrForm}, {"(", 0, api.ErrForm}, {")", 0, api.ErrForm}, {",", 0, api.ErrForm}, {"()", 0, api.ErrForm}, {"(a)", 0, api.ErrForm}, {"f(", 2, api.ErrForm}, {"f((a))", 2, api.ErrForm}, {"f(,a)", 2, api.ErrForm}, {"f(a,)", 4, api.ErrForm}, {"f(a,,b)", 4, api.ErrForm}, {"f(a,", 4, api.ErrForm}, {"f(g(),a)", 4, api.ErrForm}, {"f(g(a),)", 7, api.ErrForm},
		{"f(_)", 2, api.ErrForm}, {"f(-1)", 2, api.ErrForm}, {"f(+)", 2, api.ErrForm}, {"_a", 0, api.ErrForm}, {"f(a,\n)", 4, api.ErrForm}, {"\x00", 0, api.ErrForm}, {"f(\x00)", 2, api.ErrForm},
		// A name that is none of both.
		{"Xa", 0, api.ErrName}, {"2", 0, api.ErrName}, {"2a", 0, api.ErrName}, {"abcdefghi", 0, api.ErrName}, {"ABCDEFGHI", 0, api.ErrName}, {"aB(a)", 0, api.ErrName}, {"f(a,bC)", 4, api.ErrName}, {"f(1)", 2, api.ErrName}, {"f(a,abcdefghi)", 4, api.ErrName}, {"fX(", 0, api.ErrName}, {"Xf()", 0, api.ErrName}, {"f(a,Xy(b))", 4, api.ErrName}, {"9_", 0, api.ErrName},
		// A ( behind a variable.
		{"X(", 1, api.ErrArity}, {"X()", 1, api.ErrArity}, {"ABCDEFGH(a)", 8, api.ErrArity}, {"f(X(a),b)", 3, api.ErrArity}, {"f(a,Y1(", 6, api.ErrArity},
		// Neither , nor ) behind an argument.
		{"f(a(b)", 6, api.ErrForm}, {"f(a;b)", 3, api.ErrForm}, {"f(a b)", 3, api.ErrForm}, {"f(a,b", 5, api.ErrForm}, {"f(a,b c)", 5, api.ErrForm}, {"f(g(a)b)", 6, api.ErrForm}, {"f(g(a)(", 6, api.ErrForm}, {"f(X_)", 3, api.ErrForm}, {"f(a\x00", 3, api.ErrForm}, {"f(a,b,c,d", 9, api.ErrForm}, {"f(a,b,c,d;", 9, api.ErrForm}, {"f(a,b,c,d e)", 9, api.ErrForm},
		// A fifth argument.
		{"h(a,b,c,d,e)", 9, api.ErrArity}, {"h(a,b,c,d,", 9, api.ErrArity}, {"h(a,b,c,d,)", 9, api.ErrArity}, {"h(a,b,c,d,_)", 9, api.ErrArity}, {"h(a,b,c,g(a),e)", 12, api.ErrArity}, {"g(h(a,b,c,d,e),Xa)", 11, api.ErrArity}, {"h(a,b,c,d,eX)", 9, api.ErrArity},
		// What stands behind the whole.
		{"a)", 1, api.ErrForm}, {"a,", 1, api.ErrForm}, {"a,b", 1, api.ErrForm}, {"X)", 1, api.ErrForm}, {"X,", 1, api.ErrForm}, {"f(a))", 4, api.ErrForm}, {"f(a)b", 4, api.ErrForm}, {"f(a)(b)", 4, api.ErrForm}, {"f(a),", 4, api.ErrForm}, {"a\x00", 1, api.ErrForm}, {"a_", 1, api.ErrForm}, {"f(a)\n", 4, api.ErrForm}, {"a-b", 1, api.ErrForm},
		// Blanks are nowhere passed over.
		{" ", 0, api.ErrForm}, {" a", 0, api.ErrForm}, {"a ", 1, api.ErrForm}, {"f (a)", 1, api.ErrForm}, {"f( a)", 2, api.ErrForm}, {"f(a )", 3, api.ErrForm}, {"f(a ,b)", 3, api.ErrForm}, {"f(a, b)", 4, api.ErrForm}, {"f(a) ", 4, api.ErrForm}, {"X (a)", 1, api.ErrForm}, {"\ta", 0, api.ErrForm},
		// Bytes above 127, and places counted in bytes.
		{"é", 0, api.ErrForm}, {"aé", 1, api.ErrForm}, {"f(é)", 2, api.ErrForm}, {"f(aé)", 3, api.ErrForm}, {"\xff", 0, api.ErrForm}, {"f(\xe1)", 2, api.ErrForm}, {"f(a\xac b)", 3, api.ErrForm}, {"f(a,\xc1)", 4, api.ErrForm}, {"f(a)\x80", 4, api.ErrForm}, {"ａ", 0, api.ErrForm}, {"f(٣)", 2, api.ErrForm},
		// The 65th cell, and what is told ahead of it.
		{strings.Repeat(top, 64) + "a", 128, api.ErrBig}, {strings.Repeat(top, 64) + "X(", 128, api.ErrBig}, {strings.Repeat(top, 64) + "aX", 128, api.ErrName}, {strings.Repeat(top, 64), 128, api.ErrForm}, {strings.Repeat(top, 64) + ")", 128, api.ErrForm},
		{strings.Repeat(top, 63) + "X(a", 127, api.ErrArity}, {strings.Repeat(top, 63) + "a,", 128, api.ErrForm}, {strings.Repeat(top, 63) + "a,b", 128, api.ErrBig}, {strings.Repeat(top, 63) + "a", 127, api.ErrForm}, {strings.Repeat(top, 59) + "h(a,b,c,d,e)", 127, api.ErrArity}, {strings.Repeat(top, 60) + "h(a,b,c,d,e)", 128, api.ErrBig},
		{tower(64).text() + ")", 190, api.ErrForm}, {tower(64).text() + "a", 190, api.ErrForm},
	} {
		x, at, e := term.Parse(c.s)
		if len(x) != 0 || at != c.at || e != c.want {
			t.Errorf("Parse(%.40q) = %v, %d, %v, want %d, %v", c.s, x, at, e, c.at, c.want)
		}
		if _, at, e := modelParse(c.s); at != c.at || e != c.want {
			t.Errorf("the model at %.40q: %d, %v, want %d, %v", c.s, at, e, c.at, c.want)
		}
	}
}

func TestParse(t *testing.T) {
	for _, c := range []struct {
		s    string
		want *tree
	}{
		{"a", leaf("a")}, {"X", leaf("X")}, {"z9", leaf("z9")}, {"Z0", leaf("Z0")}, {"abcdefgh", leaf("abcdefgh")}, {"ABCDEFGH", leaf("ABCDEFGH")},
		{"f(a)", node("f", leaf("a"))}, {"f(f(f))", node("f", node("f", leaf("f")))}, {"f(X,X)", node("f", leaf("X"), leaf("X"))},
		{"h(a,B,c,D)", node("h", leaf("a"), leaf("B"), leaf("c"), leaf("D"))},
		{"h(h(a,b,c,d),e,f(X),g)", node("h", node("h", leaf("a"), leaf("b"), leaf("c"), leaf("d")), leaf("e"), node("f", leaf("X")), leaf("g"))},
		{"plus(s(X),Y)", node("plus", node("s", leaf("X")), leaf("Y"))},
		{strings.Repeat("s(", 63) + "a" + strings.Repeat(")", 63), tower(64)},
	} {
		if x, at, e := term.Parse(c.s); !slices.Equal(x, c.want.cells()) || at != 0 || e != api.OK {
			t.Errorf("Parse(%q) = %v, %d, %v, want %v", c.s, x, at, e, c.want.cells())
		}
	}
}

// holdText checks Parse against its model, and that Print of what it reads is the text (P4.5).
func holdText(t *testing.T, s string) {
	t.Helper()
	want, wantAt, wantE := modelParse(s)
	for range 2 {
		x, at, e := term.Parse(s)
		if !slices.Equal(x, want) || at != wantAt || e != wantE {
			t.Errorf("Parse(%q) = %v, %d, %v, want %v, %d, %v", s, x, at, e, want, wantAt, wantE)
		}
		if e != api.OK {
			continue
		}
		if back, e := term.Print(x); back != s || e != api.OK {
			t.Errorf("Print of Parse of %q: %q, %v", s, back, e)
		}
	}
}

func TestEveryShortText(t *testing.T) {
	for _, b := range everyList([]byte("aX2(,) \xe1"), 5) {
		holdText(t, string(b))
	}
	for _, b := range everyList([]byte("a(,)"), 8) {
		holdText(t, string(b))
	}
}

// TestEachByte lays each of the 256 bytes at each place of a text, and between its places.
func TestEachByte(t *testing.T) {
	const text = "f(a,g(X,b2))"
	for c := range 256 {
		for at := range len(text) + 1 {
			one := string([]byte{byte(c)})
			holdText(t, text[:at]+one+text[at:])
			holdText(t, text[:at]+one+text[min(at+1, len(text)):])
		}
	}
}

// TestManyTexts reads the texts of terms with pieces changed, left out and put in.
func TestManyTexts(t *testing.T) {
	r := rand.New(rand.NewSource(5))
	pieces := []string{"(", ")", ",", "a", "X", "aX", "7", " ", "\xff", "s(", "),", "X(", "h(a,b,c,d,", ",e", "abcdefgh", ""}
	for _, x := range trees() {
		s := x.text()
		holdText(t, s)
		for range 10 {
			from := r.Intn(len(s) + 1)
			to := min(from+r.Intn(3), len(s))
			holdText(t, s[:from]+pieces[r.Intn(len(pieces))]+s[to:])
			holdText(t, s[:from])
		}
	}
}

// TestManyTerms holds every call against the trees, and lists that were terms ahead of one change.
func TestManyTerms(t *testing.T) {
	r := rand.New(rand.NewSource(6))
	for _, x := range trees() {
		cells := x.cells()
		for range 2 {
			holdAgainst(t, cells)
		}
		for range 3 {
			other := slices.Clone(cells)
			switch at := r.Intn(len(other)); r.Intn(4) {
			case 0:
				other[at].Arity = r.Intn(8) - 1
			case 1:
				other[at].Name = []string{"", "X", "a", "Xa", "a b"}[r.Intn(5)]
			case 2:
				other = slices.Delete(other, at, at+1)
			case 3:
				other = slices.Insert(other, at, cells[r.Intn(len(cells))])
			}
			holdAgainst(t, other)
		}
	}
}

// TestThereAndBack is P4.5.
func TestThereAndBack(t *testing.T) {
	for _, x := range trees() {
		cells := x.cells()
		s, e := term.Print(cells)
		if back, at, f := term.Parse(s); e != api.OK || f != api.OK || at != 0 || !slices.Equal(back, cells) {
			t.Errorf("Parse of Print of %v: %v, %d, %v, %v", cells, back, at, e, f)
		}
		kids, e := term.Kids(cells)
		if back, f := term.Make(cells[0].Name, kids...); e != api.OK || f != api.OK || !slices.Equal(back, cells) {
			t.Errorf("Make of Kids of %v: %v, %v, %v", cells, back, e, f)
		}
	}
}

func TestVars(t *testing.T) {
	for _, c := range []struct {
		s    string
		want []string
	}{
		{"a", nil}, {"X", []string{"X"}}, {"f(a)", nil}, {"f(X,X)", []string{"X"}}, {"f(Y,X)", []string{"Y", "X"}}, {"f(g(Z,Y),g(X,Z),Y)", []string{"Z", "Y", "X"}}, {"f(X1,X,X10)", []string{"X1", "X", "X10"}}, {"h(x,X,x)", []string{"X"}},
	} {
		x, _, _ := term.Parse(c.s)
		if vars, e := term.Vars(x); !slices.Equal(vars, c.want) || e != api.OK {
			t.Errorf("Vars(%s) = %q, %v, want %q", c.s, vars, e, c.want)
		}
	}
}

func TestDepth(t *testing.T) {
	for _, c := range []struct {
		s    string
		want int
	}{
		{"a", 1}, {"X", 1}, {"f(a)", 2}, {"h(a,b,c,d)", 2}, {"f(a,g(b))", 3}, {"f(g(b),a)", 3}, {"f(g(g(a)),g(a),a)", 4}, {"f(a,g(a),g(g(a)))", 4}, {tower(64).text(), 64},
	} {
		x, _, _ := term.Parse(c.s)
		if n, e := term.Depth(x); n != c.want || e != api.OK {
			t.Errorf("Depth(%s) = %d, %v, want %d", c.s, n, e, c.want)
		}
	}
}

func TestMake(t *testing.T) {
	a, x := api.Term{cell("a", 0)}, api.Term{cell("X", 0)}
	form, none, arity, big := api.Term{}, api.Term{cell("aX", 0)}, api.Term{cell("a", 5)}, tower(65).cells()
	for _, c := range []struct {
		what, name string
		kids       []api.Term
		want       api.Term
		e          api.Errno
	}{
		{"a symbol", "a", nil, a, api.OK}, {"a variable", "X", nil, x, api.OK}, {"an empty list", "a", []api.Term{}, a, api.OK},
		{"one", "s", []api.Term{a}, api.Term{cell("s", 1), cell("a", 0)}, api.OK},
		{"two", "g", []api.Term{a, x}, api.Term{cell("g", 2), cell("a", 0), cell("X", 0)}, api.OK},
		{"four", "h", []api.Term{a, x, a, x}, api.Term{cell("h", 4), cell("a", 0), cell("X", 0), cell("a", 0), cell("X", 0)}, api.OK},
		{"kids that have kids", "h", []api.Term{{cell("s", 1), cell("a", 0)}, x, {cell("s", 1), cell("X", 0)}}, api.Term{cell("h", 3), cell("s", 1), cell("a", 0), cell("X", 0), cell("s", 1), cell("X", 0)}, api.OK},
		{"64 cells", "s", []api.Term{tower(63).cells()}, tower(64).cells(), api.OK},
		{"64 cells of four kids", "h", []api.Term{tower(60).cells(), a, x, a}, node("h", tower(60), leaf("a"), leaf("X"), leaf("a")).cells(), api.OK},
		// The cell itself.
		{"no name", "", nil, nil, api.ErrName}, {"no right name", "aX", nil, nil, api.ErrName}, {"no right name over a kid", "2", []api.Term{a}, nil, api.ErrName}, {"a long name", "abcdefghi", []api.Term{a}, nil, api.ErrName}, {"a text of a term", "f(a)", nil, nil, api.ErrName},
		{"five", "h", []api.Term{a, a, a, a, a}, nil, api.ErrArity}, {"a variable over one", "X", []api.Term{a}, nil, api.ErrArity}, {"a variable over four", "X", []api.Term{a, a, a, a}, nil, api.ErrArity}, {"five and no right name", "", []api.Term{a, a, a, a, a}, nil, api.ErrName},
		// Too big together, ahead of the name and the arity.
		{"65 cells", "s", []api.Term{tower(64).cells()}, nil, api.ErrBig}, {"65 cells of two kids", "g", []api.Term{tower(32).cells(), tower(32).cells()}, nil, api.ErrBig}, {"65 cells, the last kid's", "g", []api.Term{tower(63).cells(), a}, nil, api.ErrBig}, {"257 cells", "h", slices.Repeat([]api.Term{tower(64).cells()}, 4), nil, api.ErrBig},
		{"65 cells and no right name", "", []api.Term{tower(64).cells()}, nil, api.ErrBig}, {"65 cells of a variable", "X", []api.Term{tower(64).cells()}, nil, api.ErrBig}, {"65 cells of five kids", "h", []api.Term{tower(60).cells(), a, a, a, a}, nil, api.ErrBig}, {"64 cells of five kids", "h", []api.Term{tower(59).cells(), a, a, a, a}, nil, api.ErrArity},
		{"64 kids", "h", slices.Repeat([]api.Term{a}, 64), nil, api.ErrBig}, {"63 kids", "h", slices.Repeat([]api.Term{a}, 63), nil, api.ErrArity}, {"63 kids and no right name", "H h", slices.Repeat([]api.Term{a}, 63), nil, api.ErrName},
		// Kids that are none, ahead of the rest, the first of them.
		{"no kid", "s", []api.Term{nil}, nil, api.ErrForm}, {"an empty kid", "s", []api.Term{form}, nil, api.ErrForm}, {"a kid too many", "s", []api.Term{{cell("a", 0), cell("a", 0)}}, nil, api.ErrForm}, {"a kid too few", "g", []api.Term{{cell("s", 1)}, a}, nil, api.ErrForm},
		{"two kids that make one together", "g", []api.Term{{cell("g", 2), cell("a", 0)}, a}, nil, api.ErrForm},
		{"a kid without a right name", "s", []api.Term{none}, nil, api.ErrName}, {"a kid of a wrong arity", "s", []api.Term{arity}, nil, api.ErrArity}, {"a kid of 65 cells", "s", []api.Term{big}, nil, api.ErrBig},
		{"a kid and the name", "", []api.Term{arity}, nil, api.ErrArity}, {"a kid and a variable", "X", []api.Term{none}, nil, api.ErrName}, {"a kid and five of them", "h", []api.Term{a, a, a, a, none}, nil, api.ErrName}, {"a kid behind too many cells", "h", []api.Term{tower(64).cells(), tower(64).cells(), form}, nil, api.ErrForm},
		{"form, then a name", "g", []api.Term{form, none}, nil, api.ErrForm}, {"a name, then form", "g", []api.Term{none, form}, nil, api.ErrName}, {"an arity, then big", "g", []api.Term{a, arity, big}, nil, api.ErrArity}, {"big, then an arity", "g", []api.Term{a, big, arity}, nil, api.ErrBig},
	} {
		for range 2 {
			if made, e := term.Make(c.name, c.kids...); !slices.Equal(made, c.want) || e != c.e {
				t.Errorf("Make of %s: %v, %v, want %v, %v", c.what, made, e, c.want, c.e)
			}
		}
	}
}

// TestManyKids: the call ends at any number of kids (R1), each of which is looked at.
func TestManyKids(t *testing.T) {
	kids := slices.Repeat([]api.Term{tower(64).cells()}, 20000)
	if made, e := term.Make("f", kids...); len(made) != 0 || e != api.ErrBig {
		t.Errorf("Make of many kids: %d cells, %v", len(made), e)
	}
	kids[len(kids)-1] = api.Term{cell("aX", 0)}
	if made, e := term.Make("f", kids...); len(made) != 0 || e != api.ErrName {
		t.Errorf("Make of many kids, the last one wrong: %d cells, %v", len(made), e)
	}
}

// span is where something lies in memory, its spare room included. As long as the span is there that isn't used again, for another answer perhaps.
type span struct {
	from, to uintptr
	kept     unsafe.Pointer
}

func spanAt(kept unsafe.Pointer, size uintptr) span {
	return span{uintptr(kept), uintptr(kept) + size, kept}
}

func textSpan(s string) span {
	return spanAt(unsafe.Pointer(unsafe.StringData(s)), uintptr(len(s)))
}

func listSpan[T any](l []T) span {
	var one T
	return spanAt(unsafe.Pointer(unsafe.SliceData(l)), uintptr(cap(l))*unsafe.Sizeof(one))
}

func termSpans(t api.Term) []span {
	l := []span{listSpan(t)}
	for _, c := range t {
		l = append(l, textSpan(c.Name))
	}
	return l
}

func kidSpans(kids []api.Term) []span {
	l := []span{listSpan(kids)}
	for _, kid := range kids {
		l = append(l, termSpans(kid)...)
	}
	return l
}

func listSpans(texts []string) []span {
	l := []span{listSpan(texts)}
	for _, s := range texts {
		l = append(l, textSpan(s))
	}
	return l
}

// apart reports whether no two of the spans have memory in common.
func apart(spans []span) bool {
	for i, a := range spans {
		for _, b := range spans[:i] {
			if a.from < b.to && b.from < a.to {
				return false
			}
		}
	}
	return true
}

// roomy answers x as cells whose names are pieces of one text, with spare room behind them.
func roomy(x *tree) api.Term {
	text := strings.Clone(x.text())
	cells := append(make(api.Term, 0, 80), x.cells()...)
	at := 0
	for i, c := range cells {
		at += strings.Index(text[at:], c.Name)
		cells[i].Name = text[at : at+len(c.Name)]
		at += len(c.Name)
	}
	for i := range cells[len(cells):cap(cells)] {
		cells[len(cells):cap(cells)][i] = cell("spare", i)
	}
	return cells
}

var samples = []*tree{
	leaf("a"), leaf("X"), node("s", leaf("X")), node("f", leaf("X"), leaf("Y")), node("f", leaf("X"), leaf("X"), leaf("Y"), leaf("X")),
	node("h", node("g", leaf("X"), leaf("b")), leaf("c"), node("s", node("s", leaf("Z")))), tower(64),
}

// TestNewMemory: what is answered lies apart from what is handed in and from what was answered earlier, and so do the lists of one answer (R4).
func TestNewMemory(t *testing.T) {
	for _, x := range samples {
		handed := roomy(x)
		text := strings.Clone(x.text())
		given := []span{listSpan(handed), textSpan(text)}
		for _, c := range handed {
			given = append(given, textSpan(c.Name))
		}
		if !apart(given) {
			t.Fatal("the sample itself shares memory")
		}
		for range 2 {
			parsed, _, _ := term.Parse(text)
			given = append(given, termSpans(parsed)...)
			printed, _ := term.Print(handed)
			given = append(given, textSpan(printed))
			kids, _ := term.Kids(handed)
			given = append(given, kidSpans(kids)...)
			made, _ := term.Make(handed[0].Name, kids...)
			given = append(given, termSpans(made)...)
			vars, _ := term.Vars(handed)
			given = append(given, listSpans(vars)...)
		}
		if !apart(given) {
			t.Errorf("%s: answers share memory with what was handed in, or with each other", x.text())
		}
	}
}

// TestHandedInStays: no call changes what it is handed, spare room included, nor sees it change later (R4).
func TestHandedInStays(t *testing.T) {
	for _, x := range samples {
		handed := roomy(x)
		before := slices.Clone(handed[:cap(handed)])
		room := append(make([]api.Term, 0, 8), make([]api.Term, len(x.kids))...)
		for i, kid := range x.kids {
			room[i] = roomy(kid)
		}
		for i := range room[len(room):cap(room)] {
			room[len(room):cap(room)][i] = api.Term{cell("spare", i)}
		}
		kidsBefore := make([]api.Term, cap(room))
		for i, kid := range room[:cap(room)] {
			kidsBefore[i] = slices.Clone(kid[:cap(kid)])
		}
		term.Check(handed)
		term.Print(handed)
		term.Vars(handed)
		term.Depth(handed)
		term.End(handed, 0)
		kids, _ := term.Kids(handed)
		made, _ := term.Make(x.name, room...)
		if !slices.Equal(handed[:cap(handed)], before) {
			t.Errorf("%s was changed", x.text())
		}
		for i, kid := range room[:cap(room)] {
			if !slices.Equal(kid[:cap(kid)], kidsBefore[i]) {
				t.Errorf("kid %d of %s was changed", i, x.text())
			}
		}
		clear(handed[:cap(handed)])
		for _, kid := range room {
			clear(kid[:cap(kid)])
		}
		for i, kid := range x.kids {
			if !slices.Equal(kids[i], kid.cells()) {
				t.Errorf("Kids of %s hang on what was handed in", x.text())
			}
		}
		if !slices.Equal(made, x.cells()) {
			t.Errorf("Make of %s hangs on what was handed in", x.text())
		}
	}
}

// TestAnswersStandAlone: an answer that is written over, its spare room too, moves no other answer and none that comes later.
func TestAnswersStandAlone(t *testing.T) {
	for _, x := range samples {
		cells, text := x.cells(), x.text()
		for range 2 {
			parsed, _, _ := term.Parse(text)
			if !slices.Equal(parsed, cells) {
				t.Errorf("Parse(%s) = %v", text, parsed)
			}
			clear(parsed[:cap(parsed)])
			kids, _ := term.Kids(cells)
			made, _ := term.Make(x.name, kids...)
			if !slices.Equal(made, cells) {
				t.Errorf("Make of %s = %v", text, made)
			}
			for i, kid := range kids {
				if !slices.Equal(kid, x.kids[i].cells()) {
					t.Errorf("Kids(%s)[%d] = %v", text, i, kid)
				}
				clear(kid[:cap(kid)])
			}
			clear(made[:cap(made)])
			vars, _ := term.Vars(cells)
			if !slices.Equal(vars, x.vars(nil)) {
				t.Errorf("Vars(%s) = %q", text, vars)
			}
			clear(vars[:cap(vars)])
		}
	}
}
