package book_test

import (
	"fmt"
	"maps"
	"math/rand"
	"regexp"
	"slices"
	"strings"
	"testing"

	"aumbry/api"
	"aumbry/book"
	"aumbry/disk"
	"aumbry/refs"
	"aumbry/rule"
	"aumbry/space"
	"aumbry/term"
	"aumbry/tree"
)

func opened(t testing.TB, blocks, room int) (*disk.Disk, *space.Space) {
	t.Helper()
	d, e := disk.New(blocks)
	want(t, e, api.OK)
	s, e := space.Open(d, room)
	want(t, e, api.OK)
	return d, s
}

func want(t testing.TB, got, want api.Errno) {
	t.Helper()
	if got != want {
		t.Fatalf("%v, want %v", got, want)
	}
}

// off turns the power of a disk off, and changes nothing else of it.
func off(d *disk.Disk) {
	d.Cut(0)
	d.Write(0, strings.Repeat("\x00", 256))
}

func read(t testing.TB, s string) api.Term {
	t.Helper()
	x, _, e := term.Parse(s)
	if e != api.OK {
		t.Fatalf("%s: %v", s, e)
	}
	return x
}

func text(x api.Term) string {
	s, e := term.Print(x)
	if e != api.OK {
		return fmt.Sprint(x, e)
	}
	return s
}

// sides is a rule that is told as its sides with -> between, right or not.
func sides(t testing.TB, s string) api.Rule {
	t.Helper()
	left, right, is := strings.Cut(s, " -> ")
	if !is {
		t.Fatalf("%s is no rule", s)
	}
	return api.Rule{Left: read(t, left), Right: read(t, right)}
}

// told is a rule as its number and its sides.
func told(x api.Rule) string { return fmt.Sprintf("%d: %s -> %s", x.ID, text(x.Left), text(x.Right)) }

func alike(x, y api.Rule) bool {
	return x.ID == y.ID && slices.Equal(x.Left, y.Left) && slices.Equal(x.Right, y.Right)
}

// bytesOf is a number in so many bytes, the highest one first.
func bytesOf(n uint64, width int) string {
	var b []byte
	for i := width - 1; i >= 0; i-- {
		b = append(b, byte(n>>(8*i)))
	}
	return string(b)
}

var variableForm = regexp.MustCompile(`^[A-Z]`)

// plain calls the variables of a right rule X0, X1 and so on, as they stand first.
func plain(x api.Rule) api.Rule {
	called := map[string]string{}
	again := func(t api.Term) api.Term {
		var l api.Term
		for _, c := range t {
			if variableForm.MatchString(c.Name) {
				if called[c.Name] == "" {
					called[c.Name] = fmt.Sprintf("X%d", len(called))
				}
				c.Name = called[c.Name]
			}
			l = append(l, c)
		}
		return l
	}
	return api.Rule{Left: again(x.Left), Right: again(x.Right)}
}

// model does, one after the other, what the chapter's sentences tell, by the layers below, on a disk whose power never fails; and it keeps in lists what has to come of it.
type model struct {
	d    *disk.Disk
	s    *space.Space
	r    *refs.Refs
	tree *tree.Tree
	at   places
	kept
}

// places are the pages from which all is found again.
type places struct{ dir, list, root int }

// kept is what the model has beside its pages.
type kept struct {
	rules         []api.Rule // by rising numbers
	next, changes int
	held          map[api.Addr]int // from elsewhere than by rules
}

func (k kept) again() kept {
	return kept{slices.Clone(k.rules), k.next, k.changes, maps.Clone(k.held)}
}

func newModel(t testing.TB, blocks int) *model {
	t.Helper()
	d, s := opened(t, blocks, 1024)
	m := &model{d: d, s: s, kept: kept{next: 1, held: map[api.Addr]int{}}}
	var e api.Errno
	m.at.dir, m.at.list, e = refs.New(s)
	want(t, e, api.OK)
	m.at.root, e = tree.New(s)
	want(t, e, api.OK)
	m.look()
	m.count(t)
	return m
}

func (m *model) look() {
	m.r = refs.At(m.s, m.at.dir, m.at.list)
	m.tree = tree.At(m.s, m.at.root)
}

// count writes the number of changes and the next number down.
func (m *model) count(t testing.TB) {
	t.Helper()
	want(t, m.tree.Put("v", bytesOf(uint64(m.changes), 8)+bytesOf(uint64(m.next), 4)), api.OK)
}

func (m *model) keep(t testing.TB, x api.Term) string {
	t.Helper()
	a, e := m.r.Keep(x)
	want(t, e, api.OK)
	return bytesOf(uint64(a), 6)
}

func (m *model) add(t testing.TB, x api.Rule) (int, api.Errno) {
	t.Helper()
	if e := rule.Check(x); e != api.OK {
		return 0, e
	}
	if len(m.rules) == 64 || m.next > 65535 {
		return 0, api.ErrMany
	}
	y := plain(x)
	y.ID = m.next
	value := m.keep(t, y.Left)
	value += m.keep(t, y.Right)
	want(t, m.tree.Put("r"+bytesOf(uint64(y.ID), 2), value), api.OK)
	m.rules = append(m.rules, y)
	m.next++
	m.changes++
	m.count(t)
	return y.ID, api.OK
}

// place is where the rule with a number stands in the list; -1, if there is none.
func (m *model) place(id int) int {
	return slices.IndexFunc(m.rules, func(x api.Rule) bool { return x.ID == id })
}

func (m *model) remove(t testing.TB, id int) (api.Rule, bool) {
	t.Helper()
	i := m.place(id)
	if i < 0 {
		return api.Rule{}, false
	}
	x := m.rules[i]
	left, right := m.address(t, text(x.Left)), m.address(t, text(x.Right))
	_, e := m.tree.Delete("r" + bytesOf(uint64(id), 2))
	want(t, e, api.OK)
	m.changes++
	m.count(t)
	want(t, m.r.Drop(left), api.OK)
	want(t, m.r.Drop(right), api.OK)
	m.rules = slices.Delete(slices.Clone(m.rules), i, i+1)
	return x, true
}

func (m *model) address(t testing.TB, s string) api.Addr {
	t.Helper()
	a, there, e := m.r.Has(read(t, s))
	if !there || e != api.OK {
		t.Fatalf("%s isn't there: %v", s, e)
	}
	return a
}

// undo brings the model back to its last commit, where it had this.
func (m *model) undo(k kept) {
	m.s.Undo()
	m.kept = k.again()
}

// pair is what is asked, and the model that goes through the same.
type pair struct {
	d    *disk.Disk
	s    *space.Space
	r    *refs.Refs
	b    *book.Book
	m    *model
	acts []string
}

func begin(t testing.TB, blocks, room int) *pair {
	t.Helper()
	d, s := opened(t, blocks, room)
	m := newModel(t, blocks)
	dir, list, e := refs.New(s)
	want(t, e, api.OK)
	root, e := book.New(s)
	want(t, e, api.OK)
	if at := (places{dir, list, root}); at != m.at {
		t.Fatalf("New: %v, want %v", at, m.at)
	}
	p := &pair{d: d, s: s, m: m}
	p.look(t)
	return p
}

func (p *pair) look(t testing.TB) {
	t.Helper()
	p.r = refs.At(p.s, p.m.at.dir, p.m.at.list)
	p.b = book.At(p.s, p.r, p.m.at.root)
	if p.b == nil {
		t.Fatal("nothing there")
	}
}

// open opens the space anew.
func (p *pair) open(t testing.TB, room int) {
	t.Helper()
	var e api.Errno
	p.s, e = space.Open(p.d, room)
	want(t, e, api.OK)
	p.look(t)
}

// again is the pair as it was committed last, on disks of its own.
func (p *pair) again(t testing.TB, room int) *pair {
	t.Helper()
	var e api.Errno
	m := &model{at: p.m.at, kept: p.m.again()}
	m.d, e = disk.Of(p.m.d.Image())
	want(t, e, api.OK)
	m.s, e = space.Open(m.d, 1024)
	want(t, e, api.OK)
	m.look()
	q := &pair{m: m}
	q.d, e = disk.Of(p.d.Image())
	want(t, e, api.OK)
	q.open(t, room)
	return q
}

func (p *pair) act(form string, args ...any) { p.acts = append(p.acts, fmt.Sprintf(form, args...)) }

func (p *pair) last() []string { return p.acts[max(0, len(p.acts)-8):] }

// addRule adds a rule, right or not.
func (p *pair) addRule(t testing.TB, x api.Rule) (int, api.Errno) {
	t.Helper()
	p.act("add %s", told(x))
	id, e := p.b.Add(x)
	if w, f := p.m.add(t, x); id != w || e != f {
		t.Fatalf("behind %v: %d, %v, want %d, %v", p.last(), id, e, w, f)
	}
	return id, e
}

// add adds a rule that is told, and wants it to have this number.
func (p *pair) add(t testing.TB, s string, number int) {
	t.Helper()
	id, e := p.addRule(t, sides(t, s))
	if id != number || e != api.OK {
		t.Fatalf("behind %v: %d, %v, want %d", p.last(), id, e, number)
	}
}

// refused wants this error of a rule.
func (p *pair) refused(t testing.TB, x api.Rule, e api.Errno) {
	t.Helper()
	if _, f := p.addRule(t, x); e != f {
		t.Errorf("behind %v: %v, want %v", p.last(), f, e)
	}
}

func (p *pair) remove(t testing.TB, id int) bool {
	t.Helper()
	p.act("remove %d", id)
	x, found, e := p.b.Remove(id)
	if y, w := p.m.remove(t, id); !alike(x, y) || found != w || e != api.OK {
		t.Fatalf("behind %v: %s, %v, %v, want %s, %v", p.last(), told(x), found, e, told(y), w)
	}
	return found
}

// keep holds a term from elsewhere.
func (p *pair) keep(t testing.TB, x api.Term) {
	t.Helper()
	p.act("keep %s", text(x))
	a, e := p.r.Keep(x)
	want(t, e, api.OK)
	b, e := p.m.r.Keep(x)
	want(t, e, api.OK)
	if a != b {
		t.Fatalf("behind %v: %x, want %x", p.last(), a, b)
	}
	p.m.held[a]++
}

// drop lets one go that is held from elsewhere, if there is one.
func (p *pair) drop(t testing.TB, r *rand.Rand) {
	t.Helper()
	l := slices.Sorted(maps.Keys(p.m.held))
	if len(l) == 0 {
		return
	}
	a := l[r.Intn(len(l))]
	p.act("drop %x", a)
	want(t, p.r.Drop(a), api.OK)
	want(t, p.m.r.Drop(a), api.OK)
	p.m.held[a]--
	if p.m.held[a] == 0 {
		delete(p.m.held, a)
	}
}

func (p *pair) reclaim(t testing.TB, n int) bool {
	t.Helper()
	p.act("reclaim %d", n)
	out, done, e := p.r.Reclaim(n)
	want(t, e, api.OK)
	if wantOut, wantDone, e := p.m.r.Reclaim(n); out != wantOut || done != wantDone || e != api.OK {
		t.Fatalf("behind %v: %d, %v, want %d, %v", p.last(), out, done, wantOut, wantDone)
	}
	return done
}

// commit commits both.
func (p *pair) commit(t testing.TB) {
	t.Helper()
	want(t, p.s.Commit(), api.OK)
	want(t, p.m.s.Commit(), api.OK)
}

// ask asks for the rules, and for how often they were changed.
func (p *pair) ask(t testing.TB) {
	t.Helper()
	if l, e := p.b.List(); !slices.EqualFunc(l, p.m.rules, alike) || e != api.OK {
		t.Fatalf("behind %v: List = %v, %v, want %v", p.last(), l, e, p.m.rules)
	}
	if n, e := p.b.Version(); n != p.m.changes || e != api.OK {
		t.Fatalf("behind %v: Version = %d, %v, want %d", p.last(), n, e, p.m.changes)
	}
}

// holdPages: byte by byte the pages are as step by step they have come to be.
func (p *pair) holdPages(t testing.TB) {
	t.Helper()
	if !p.same(t) {
		t.Fatalf("behind %v: the pages aren't as they have to be", p.last())
	}
}

// same: the pages are those of the model.
func (p *pair) same(t testing.TB) bool {
	t.Helper()
	taken := p.m.s.Taken()
	if !slices.Equal(p.s.Taken(), taken) {
		return false
	}
	for _, at := range taken {
		data, e := p.m.s.Get(at)
		want(t, e, api.OK)
		got, e := p.s.Get(at)
		want(t, e, api.OK)
		if got != data {
			return false
		}
	}
	return true
}

// holdAll: all tells what the model tells, and lies on the pages as it has to; each rule's sides are held once for it.
func (p *pair) holdAll(t testing.TB) {
	t.Helper()
	p.holdPages(t)
	p.ask(t)
	p.holdCounts(t)
}

// holdCounts: each node's count is how often it stands among kids, is held from elsewhere, and is the side of a rule.
func (p *pair) holdCounts(t testing.TB) {
	t.Helper()
	counts := maps.Clone(p.m.held)
	for _, x := range p.m.rules {
		for _, side := range []api.Term{x.Left, x.Right} {
			a, there, e := p.r.Has(side)
			if !there || e != api.OK {
				t.Fatalf("behind %v: %s: %v, %v", p.last(), told(x), there, e)
			}
			counts[a]++
		}
	}
	l, e := p.r.Nodes().List()
	want(t, e, api.OK)
	for _, x := range l {
		for _, kid := range x.Kids {
			counts[kid]++
		}
	}
	for _, x := range l {
		if x.Count != counts[x.At] {
			t.Fatalf("behind %v: %v has to have the count %d", p.last(), x, counts[x.At])
		}
	}
}
