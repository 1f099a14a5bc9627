package names_test

import (
	"fmt"
	"maps"
	"math/rand"
	"regexp"
	"slices"
	"strings"
	"testing"

	"aumbry/api"
	"aumbry/disk"
	"aumbry/names"
	"aumbry/refs"
	"aumbry/space"
	"aumbry/term"
	"aumbry/tree"
)

func opened(t testing.TB, blocks, room int) (*disk.Disk, *space.Space) {
	t.Helper()
	d, e := disk.New(blocks)
	want(t, e, api.OK)
	s, e := space.Open(d, room)
	want(t, e, api.OK)
	return d, s
}

func want(t testing.TB, got, want api.Errno) {
	t.Helper()
	if got != want {
		t.Fatalf("%v, want %v", got, want)
	}
}

// off turns the power of a disk off, and changes nothing else of it.
func off(d *disk.Disk) {
	d.Cut(0)
	d.Write(0, strings.Repeat("\x00", 256))
}

func read(t testing.TB, s string) api.Term {
	t.Helper()
	x, _, e := term.Parse(s)
	if e != api.OK {
		t.Fatalf("%s: %v", s, e)
	}
	return x
}

func text(x api.Term) string {
	s, e := term.Print(x)
	if e != api.OK {
		return fmt.Sprint(x, e)
	}
	return s
}

// bytesOf is a number in so many bytes, the highest one first.
func bytesOf(n uint64, width int) string {
	var b []byte
	for i := width - 1; i >= 0; i-- {
		b = append(b, byte(n>>(8*i)))
	}
	return string(b)
}

var (
	symbolForm   = regexp.MustCompile(`^[a-z][a-z0-9]{0,7}\z`)
	variableForm = regexp.MustCompile(`^[A-Z][A-Z0-9]{0,7}\z`)
)

// model does, one after the other, what the chapter's sentences tell, by the layers below, on a disk whose power never fails; and it keeps in lists what has to come of it.
type model struct {
	d              *disk.Disk
	s              *space.Space
	r              *refs.Refs
	symbols, terms *tree.Tree
	at             places
	kept
}

// places are the pages from which all is found again.
type places struct{ dir, list, symbols, terms int }

// kept is what the model has beside its pages.
type kept struct {
	declared []api.Symbol // as they were declared
	named    map[string]string
	held     map[api.Addr]int // from elsewhere than by names
}

func (k kept) again() kept {
	return kept{slices.Clone(k.declared), maps.Clone(k.named), maps.Clone(k.held)}
}

func newModel(t testing.TB, blocks int) *model {
	t.Helper()
	d, s := opened(t, blocks, 1024)
	m := &model{d: d, s: s, kept: kept{named: map[string]string{}, held: map[api.Addr]int{}}}
	var e api.Errno
	m.at.dir, m.at.list, e = refs.New(s)
	want(t, e, api.OK)
	m.at.symbols, e = tree.New(s)
	want(t, e, api.OK)
	m.at.terms, e = tree.New(s)
	want(t, e, api.OK)
	m.look()
	return m
}

func (m *model) look() {
	m.r = refs.At(m.s, m.at.dir, m.at.list)
	m.symbols, m.terms = tree.At(m.s, m.at.symbols), tree.At(m.s, m.at.terms)
}

func (m *model) arity(name string) (int, bool) {
	for _, x := range m.declared {
		if x.Name == name {
			return x.Arity, true
		}
	}
	return 0, false
}

func (m *model) declare(t testing.TB, name string, arity int) api.Errno {
	t.Helper()
	_, there := m.arity(name)
	switch {
	case !symbolForm.MatchString(name):
		return api.ErrName
	case arity < 0 || arity > 4:
		return api.ErrArity
	case there:
		return api.ErrTwice
	case len(m.declared) == 128:
		return api.ErrMany
	}
	want(t, m.symbols.Put(name, string([]byte{byte(arity), byte(len(m.declared))})), api.OK)
	m.declared = append(m.declared, api.Symbol{Name: name, Arity: arity})
	return api.OK
}

func (m *model) fits(x api.Term) api.Errno {
	if e := term.Check(x); e != api.OK {
		return e
	}
	for _, c := range x {
		if variableForm.MatchString(c.Name) {
			continue
		}
		arity, there := m.arity(c.Name)
		switch {
		case !there:
			return api.ErrSymbol
		case arity != c.Arity:
			return api.ErrArity
		}
	}
	return api.OK
}

func (m *model) set(t testing.TB, name string, x api.Term) api.Errno {
	t.Helper()
	if !symbolForm.MatchString(name) {
		return api.ErrName
	}
	if e := m.fits(x); e != api.OK {
		return e
	}
	if slices.ContainsFunc(x, func(c api.Cell) bool { return variableForm.MatchString(c.Name) }) {
		return api.ErrVar
	}
	was, there := m.named[name]
	if !there && len(m.named) == 64 {
		return api.ErrMany
	}
	a, e := m.r.Keep(x)
	want(t, e, api.OK)
	want(t, m.terms.Put(name, bytesOf(uint64(a), 6)), api.OK)
	if there {
		m.letGo(t, was)
	}
	m.named[name] = text(x)
	return api.OK
}

// letGo lets the term with that text go.
func (m *model) letGo(t testing.TB, s string) {
	t.Helper()
	want(t, m.r.Drop(m.address(t, s)), api.OK)
}

func (m *model) address(t testing.TB, s string) api.Addr {
	t.Helper()
	a, there, e := m.r.Has(read(t, s))
	if !there || e != api.OK {
		t.Fatalf("%s isn't there: %v", s, e)
	}
	return a
}

func (m *model) forget(t testing.TB, name string) bool {
	t.Helper()
	s, there := m.named[name]
	if !there {
		return false
	}
	_, e := m.terms.Delete(name)
	want(t, e, api.OK)
	m.letGo(t, s)
	delete(m.named, name)
	return true
}

func (m *model) sorted() []api.Symbol {
	l := slices.Clone(m.declared)
	slices.SortFunc(l, func(a, b api.Symbol) int { return strings.Compare(a.Name, b.Name) })
	return l
}

func (m *model) order() []string {
	var l []string
	for _, x := range m.declared {
		l = append(l, x.Name)
	}
	return l
}

func (m *model) names() []string { return slices.Sorted(maps.Keys(m.named)) }

// undo brings the model back to its last commit, where it had this.
func (m *model) undo(k kept) {
	m.s.Undo()
	m.kept = k.again()
}

// pair is what is asked, and the model that goes through the same.
type pair struct {
	d    *disk.Disk
	s    *space.Space
	r    *refs.Refs
	n    *names.Names
	m    *model
	acts []string
}

func begin(t testing.TB, blocks, room int) *pair {
	t.Helper()
	d, s := opened(t, blocks, room)
	m := newModel(t, blocks)
	dir, list, e := refs.New(s)
	want(t, e, api.OK)
	symbols, terms, e := names.New(s)
	want(t, e, api.OK)
	if at := (places{dir, list, symbols, terms}); at != m.at {
		t.Fatalf("New: %v, want %v", at, m.at)
	}
	p := &pair{d: d, s: s, m: m}
	p.look(t)
	return p
}

func (p *pair) look(t testing.TB) {
	t.Helper()
	p.r = refs.At(p.s, p.m.at.dir, p.m.at.list)
	p.n = names.At(p.s, p.r, p.m.at.symbols, p.m.at.terms)
	if p.n == nil {
		t.Fatal("nothing there")
	}
}

// open opens the space anew.
func (p *pair) open(t testing.TB, room int) {
	t.Helper()
	var e api.Errno
	p.s, e = space.Open(p.d, room)
	want(t, e, api.OK)
	p.look(t)
}

// again is the pair as it was committed last, on disks of its own.
func (p *pair) again(t testing.TB, room int) *pair {
	t.Helper()
	var e api.Errno
	m := &model{at: p.m.at, kept: p.m.again()}
	m.d, e = disk.Of(p.m.d.Image())
	want(t, e, api.OK)
	m.s, e = space.Open(m.d, 1024)
	want(t, e, api.OK)
	m.look()
	q := &pair{m: m}
	q.d, e = disk.Of(p.d.Image())
	want(t, e, api.OK)
	q.open(t, room)
	return q
}

func (p *pair) act(form string, args ...any) { p.acts = append(p.acts, fmt.Sprintf(form, args...)) }

func (p *pair) last() []string { return p.acts[max(0, len(p.acts)-8):] }

func (p *pair) declare(t testing.TB, name string, arity int) api.Errno {
	t.Helper()
	p.act("declare %q %d", name, arity)
	e := p.n.Declare(name, arity)
	if w := p.m.declare(t, name, arity); e != w {
		t.Fatalf("behind %v: %v, want %v", p.last(), e, w)
	}
	return e
}

// setTerm gives a name a term, right or not.
func (p *pair) setTerm(t testing.TB, name string, x api.Term) api.Errno {
	t.Helper()
	p.act("set %q %s", name, text(x))
	e := p.n.Set(name, x)
	if w := p.m.set(t, name, x); e != w {
		t.Fatalf("behind %v: %v, want %v", p.last(), e, w)
	}
	return e
}

func (p *pair) set(t testing.TB, name, s string) api.Errno {
	t.Helper()
	return p.setTerm(t, name, read(t, s))
}

func (p *pair) forget(t testing.TB, name string) bool {
	t.Helper()
	p.act("forget %q", name)
	found, e := p.n.Forget(name)
	if w := p.m.forget(t, name); found != w || e != api.OK {
		t.Fatalf("behind %v: %v, %v, want %v", p.last(), found, e, w)
	}
	return found
}

// keep holds a term from elsewhere.
func (p *pair) keep(t testing.TB, x api.Term) {
	t.Helper()
	p.act("keep %s", text(x))
	a, e := p.r.Keep(x)
	want(t, e, api.OK)
	b, e := p.m.r.Keep(x)
	want(t, e, api.OK)
	if a != b {
		t.Fatalf("behind %v: %x, want %x", p.last(), a, b)
	}
	p.m.held[a]++
}

// drop lets one go that is held from elsewhere, if there is one.
func (p *pair) drop(t testing.TB, r *rand.Rand) {
	t.Helper()
	l := slices.Sorted(maps.Keys(p.m.held))
	if len(l) == 0 {
		return
	}
	a := l[r.Intn(len(l))]
	p.act("drop %x", a)
	want(t, p.r.Drop(a), api.OK)
	want(t, p.m.r.Drop(a), api.OK)
	p.m.held[a]--
	if p.m.held[a] == 0 {
		delete(p.m.held, a)
	}
}

func (p *pair) reclaim(t testing.TB, n int) bool {
	t.Helper()
	p.act("reclaim %d", n)
	out, done, e := p.r.Reclaim(n)
	want(t, e, api.OK)
	if wantOut, wantDone, e := p.m.r.Reclaim(n); out != wantOut || done != wantDone || e != api.OK {
		t.Fatalf("behind %v: %d, %v, want %d, %v", p.last(), out, done, wantOut, wantDone)
	}
	return done
}

// commit commits both.
func (p *pair) commit(t testing.TB) {
	t.Helper()
	want(t, p.s.Commit(), api.OK)
	want(t, p.m.s.Commit(), api.OK)
}

// ask asks for the term of a name, and whether a term fits.
func (p *pair) ask(t testing.TB, name string, x api.Term) {
	t.Helper()
	got, found, e := p.n.Get(name)
	s, there := p.m.named[name]
	if found != there || e != api.OK || there && text(got) != s || !there && len(got) != 0 {
		t.Fatalf("behind %v: Get(%q) = %v, %v, %v, want %s, %v", p.last(), name, got, found, e, s, there)
	}
	if e, w := p.n.Fits(x), p.m.fits(x); e != w {
		t.Fatalf("behind %v: Fits(%v) = %v, want %v", p.last(), x, e, w)
	}
}

// holdPages: byte by byte the pages are as step by step they have come to be.
func (p *pair) holdPages(t testing.TB) {
	t.Helper()
	if !p.same(t) {
		t.Fatalf("behind %v: the pages aren't as they have to be", p.last())
	}
}

// same: the pages are those of the model.
func (p *pair) same(t testing.TB) bool {
	t.Helper()
	taken := p.m.s.Taken()
	if !slices.Equal(p.s.Taken(), taken) {
		return false
	}
	for _, at := range taken {
		data, e := p.m.s.Get(at)
		want(t, e, api.OK)
		got, e := p.s.Get(at)
		want(t, e, api.OK)
		if got != data {
			return false
		}
	}
	return true
}

// holdAll: all tells what the model tells, and lies on the pages as it has to; each name's term is held once for it.
func (p *pair) holdAll(t testing.TB) {
	t.Helper()
	p.holdPages(t)
	if l, e := p.n.Symbols(); !slices.Equal(l, p.m.sorted()) || e != api.OK {
		t.Fatalf("behind %v: Symbols = %v, %v, want %v", p.last(), l, e, p.m.sorted())
	}
	if l, e := p.n.Order(); !slices.Equal(l, p.m.order()) || e != api.OK {
		t.Fatalf("behind %v: Order = %v, %v, want %v", p.last(), l, e, p.m.order())
	}
	if l, e := p.n.Names(); !slices.Equal(l, p.m.names()) || e != api.OK {
		t.Fatalf("behind %v: Names = %v, %v, want %v", p.last(), l, e, p.m.names())
	}
	for name := range p.m.named {
		p.ask(t, name, nil)
	}
	p.holdCounts(t)
}

// holdCounts: each node's count is how often it stands among kids, is held from elsewhere, and has a name.
func (p *pair) holdCounts(t testing.TB) {
	t.Helper()
	counts := maps.Clone(p.m.held)
	for _, s := range p.m.named {
		a, there, e := p.r.Has(read(t, s))
		if !there || e != api.OK {
			t.Fatalf("behind %v: %s: %v, %v", p.last(), s, there, e)
		}
		counts[a]++
	}
	l, e := p.r.Nodes().List()
	want(t, e, api.OK)
	for _, x := range l {
		for _, kid := range x.Kids {
			counts[kid]++
		}
	}
	for _, x := range l {
		if x.Count != counts[x.At] {
			t.Fatalf("behind %v: %v has to have the count %d", p.last(), x, counts[x.At])
		}
	}
}
