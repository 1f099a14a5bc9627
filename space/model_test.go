package space_test

import (
	"fmt"
	"maps"
	"math/rand"
	"slices"
	"strings"
	"testing"

	"aumbry/api"
	"aumbry/disk"
	"aumbry/journal"
	"aumbry/space"
)

var (
	zeros    = strings.Repeat("\x00", 256)
	zeroHead = strings.Repeat("\x00", 248)
)

// filled is a block of one byte, so often.
func filled(b byte) string { return strings.Repeat(string([]byte{b}), 256) }

// drawn is a block of any bytes.
func drawn(r *rand.Rand) string {
	b := make([]byte, 256)
	r.Read(b)
	return string(b)
}

// drawnBlocks are n blocks on which no space lies, nor a group that waits.
func drawnBlocks(r *rand.Rand, n int) []string {
	l := make([]string, n)
	for i := range l {
		l[i] = drawn(r)
	}
	l[0], l[1] = filled('x'), zeros
	return l
}

func diskOf(t testing.TB, blocks []string) *disk.Disk {
	t.Helper()
	d, e := disk.Of(blocks)
	if e != api.OK {
		t.Fatal(e)
	}
	return d
}

func opened(t testing.TB, d *disk.Disk, room int) *space.Space {
	t.Helper()
	s, e := space.Open(d, room)
	if e != api.OK || s == nil {
		t.Fatalf("Open: %v, %v", s != nil, e)
	}
	return s
}

func want(t testing.TB, got, want api.Errno) {
	t.Helper()
	if got != want {
		t.Fatalf("%v, want %v", got, want)
	}
}

// off turns the power of a disk off, and changes nothing else of it.
func off(d *disk.Disk) {
	d.Cut(0)
	d.Write(0, zeros)
}

// place is where on a disk of n blocks something is, by the words of the chapters 10 and 12.
type place struct {
	first int   // the map
	users []int // rising
}

func placeOf(n int) place {
	m := 0
	for k := range n {
		if 2*k+1+(k+127)/128 <= n {
			m = k
		}
	}
	p := place{first: 1 + 1 + (m+127)/128 + m}
	for i := range m - 2 {
		p.users = append(p.users, p.first+1+i)
	}
	return p
}

// state is what a space tells: the head's bytes of the user's, and what is taken, with its bytes.
type state struct {
	head  string
	pages map[int]string
}

func (s state) copied() state { return state{s.head, maps.Clone(s.pages)} }

func (s state) same(o state) bool { return s.head == o.head && maps.Equal(s.pages, o.pages) }

func (s state) taken() []int { return slices.Sorted(maps.Keys(s.pages)) }

func (s state) String() string { return fmt.Sprintf("%.2q %v", s.head, s.taken()) }

// told is all that a space tells.
func told(t testing.TB, s *space.Space) state {
	t.Helper()
	head, e := s.Head()
	want(t, e, api.OK)
	x := state{head, map[int]string{}}
	for _, at := range s.Taken() {
		x.pages[at], e = s.Get(at)
		want(t, e, api.OK)
	}
	return x
}

// mapOf is the map's bytes by the chapter's words.
func mapOf(n int, taken []int) string {
	b := make([]byte, 256)
	b[0] = 1
	for _, at := range taken {
		i := at - placeOf(n).first
		b[i/8] += []byte{1, 2, 4, 8, 16, 32, 64, 128}[i%8]
	}
	return string(b)
}

// lies: the state is what lies on the disk, byte by byte.
func lies(t testing.TB, image []string, s state) {
	t.Helper()
	n := len(image)
	if want := "aumbry" + string([]byte{byte(n / 256), byte(n % 256)}) + s.head; image[0] != want {
		t.Fatalf("the head page is %.12q, want %.12q", image[0], want)
	}
	if want := mapOf(n, s.taken()); image[placeOf(n).first] != want {
		t.Fatalf("the map is %x, want %x", image[placeOf(n).first], want)
	}
	for at, data := range s.pages {
		if image[at] != data {
			t.Fatalf("page %d is %.9q, want %.9q", at, image[at], data)
		}
	}
}

// isGroup: the writes are those of one group on a disk with that image, its pages by rising numbers. It answers their numbers.
func isGroup(t testing.TB, image []string, writes []api.Page) []int {
	t.Helper()
	if len(writes) == 0 {
		return nil
	}
	head := slices.IndexFunc(writes, func(p api.Page) bool { return p.At == 1 })
	pages := writes[head+1 : len(writes)-1]
	d := diskOf(t, image)
	if e := journal.Commit(d, pages); e != api.OK || !slices.Equal(d.Log(), writes) {
		t.Fatalf("%d writes are no group: %v", len(writes), e)
	}
	var numbers []int
	for _, p := range pages {
		numbers = append(numbers, p.At)
	}
	if !slices.IsSorted(numbers) {
		t.Fatalf("pages are written in the order %v", numbers)
	}
	return numbers
}

// What can be done to a space, and to the disk below it.
const (
	head = iota
	setHead
	get
	put
	alloc
	release
	commit
	undo
	cut
	restore
	fail
)

// act is one call with its arguments.
type act struct {
	what, at int
	s        string
}

func (a act) String() string {
	word := []string{"head", "setHead", "get", "put", "alloc", "release", "commit", "undo", "cut", "restore", "fail"}[a.what]
	return fmt.Sprintf("%s %d %.2q(%d)", word, a.at, a.s, len(a.s))
}

// model is the chapter by its words, without a disk: what is told now, and what was behind the last Commit that was answered OK.
type model struct {
	n         int
	now, kept state
}

func newModel(n int) *model {
	empty := state{zeroHead, map[int]string{}}
	return &model{n, empty.copied(), empty}
}

func (m *model) free() []int {
	return slices.DeleteFunc(placeOf(m.n).users, func(at int) bool { _, ok := m.now.pages[at]; return ok })
}

func (m *model) refuses(at int) api.Errno {
	if !slices.Contains(placeOf(m.n).users, at) {
		return api.ErrRange
	}
	if _, ok := m.now.pages[at]; !ok {
		return api.ErrNone
	}
	return api.OK
}

// answer is what a call answers beside its error.
type answer struct {
	s  string
	at int
}

// do does a to the model, but commit, whose outcome the disk has.
func (m *model) do(a act) (answer, api.Errno) {
	e := api.OK
	if a.what == get || a.what == put || a.what == release {
		e = m.refuses(a.at)
	}
	if e == api.OK && (a.what == put && len(a.s) != 256 || a.what == setHead && len(a.s) != 248) {
		e = api.ErrForm
	}
	if a.what == alloc && len(m.free()) == 0 {
		e = api.ErrFull
	}
	if e != api.OK {
		return answer{}, e
	}
	switch a.what {
	case head:
		return answer{s: m.now.head}, e
	case setHead:
		m.now.head = a.s
	case get:
		return answer{s: m.now.pages[a.at]}, e
	case put:
		m.now.pages[a.at] = a.s
	case alloc:
		at := m.free()[0]
		m.now.pages[at] = zeros
		return answer{at: at}, e
	case release:
		delete(m.now.pages, a.at)
	case commit:
		m.kept = m.now.copied()
	case undo:
		m.now = m.kept.copied()
	}
	return answer{}, e
}

// pair is a space over a disk, and the model that goes through the same.
type pair struct {
	d      *disk.Disk
	s      *space.Space
	m      *model
	failed []state // what Commits would have left that failed behind the last one that didn't
	quiet  bool    // nothing is asked behind an act: each look at the map makes it a page that is held
	acts   []act
}

func begin(t testing.TB, d *disk.Disk, room int) *pair {
	t.Helper()
	return &pair{d: d, s: opened(t, d, room), m: newModel(d.Len())}
}

// call does a to the space.
func (x *pair) call(a act) (v answer, e api.Errno) {
	switch a.what {
	case head:
		v.s, e = x.s.Head()
	case setHead:
		e = x.s.SetHead(a.s)
	case get:
		v.s, e = x.s.Get(a.at)
	case put:
		e = x.s.Put(a.at, a.s)
	case alloc:
		v.at, e = x.s.Alloc()
	case release:
		e = x.s.Release(a.at)
	case commit:
		e = x.s.Commit()
	case undo:
		x.s.Undo()
	case cut:
		x.d.Cut(a.at)
	case restore:
		x.d.Restore()
	case fail:
		off(x.d)
	}
	return v, e
}

// do does a to both, and holds the answers against each other. With the power off the disk's error may stand instead, where the call reads it. It answers the error.
func (x *pair) do(t testing.TB, a act) api.Errno {
	t.Helper()
	x.acts = append(x.acts, a)
	var before []string
	if a.what == commit {
		before = x.d.Image()
	}
	writes := len(x.d.Log())
	v, e := x.call(a)
	switch {
	case e == api.ErrDown:
		if a.what == setHead || a.what >= undo || v != (answer{}) || !x.d.Down() {
			t.Fatalf("behind %v: %v, down %v", x.last(), e, x.d.Down())
		}
		if a.what == commit {
			x.failed = append(x.failed, x.m.now.copied())
		} else if _, e := x.m.do(act{what: get, at: a.at}); a.what != head && a.what != alloc && e == api.ErrRange {
			t.Fatalf("behind %v: ErrDown, want ErrRange", x.last())
		}
	default:
		if wantV, wantE := x.m.do(a); v != wantV || e != wantE {
			t.Fatalf("behind %v: %.9q %d, %v, want %.9q %d, %v", x.last(), v.s, v.at, e, wantV.s, wantV.at, wantE)
		}
	}
	if a.what != commit && len(x.d.Log()) != writes {
		t.Fatalf("behind %v: something was written", x.last())
	}
	if a.what == commit && e == api.OK {
		lies(t, x.d.Image(), x.m.now)
		// Ahead of the group stands, at most, what brings another one to its end.
		if len(x.failed) == 0 {
			isGroup(t, before, x.d.Log()[writes:])
		}
		x.failed = nil
	}
	if !x.quiet {
		x.hold(t)
	}
	return e
}

// hold: Free and Taken tell what the model tells; nothing, where the disk can't be read (P12.4).
func (x *pair) hold(t testing.TB) {
	t.Helper()
	free, taken := len(x.m.free()), x.m.now.taken()
	if x.d.Down() {
		free, taken = 0, nil
	}
	if x.s.Free() != free || !slices.Equal(x.s.Taken(), taken) {
		t.Fatalf("behind %v: %d free, taken %v, want %d, %v", x.last(), x.s.Free(), x.s.Taken(), free, taken)
	}
}

// whole: all that the space tells is what the model tells.
func (x *pair) whole(t testing.TB) {
	t.Helper()
	if s := told(t, x.s); !s.same(x.m.now) {
		t.Fatalf("behind %v: %v, want %v", x.last(), s, x.m.now)
	}
}

// anew opens the disk anew, whose power fails at the cuts, one behind the other, and then no more: the space is as behind the last Commit that didn't fail, or as one that failed since would have left it; opened once more it is the same (P12.6).
func (x *pair) anew(t testing.TB, room int, cuts ...int) {
	t.Helper()
	for _, n := range cuts {
		x.d.Restore()
		x.d.Cut(n)
		if s, e := space.Open(x.d, room); e != api.OK && (e != api.ErrDown || s != nil) {
			t.Fatalf("behind %v: Open: %v, %v", x.last(), s != nil, e)
		}
	}
	x.d.Restore()
	x.s = opened(t, x.d, room)
	s := told(t, x.s)
	if !slices.ContainsFunc(append(x.failed, x.m.kept), s.same) {
		t.Fatalf("behind %v: opened anew it is %v, want %v or one of %v", x.last(), s, x.m.kept, x.failed)
	}
	writes := len(x.d.Log())
	if again := told(t, opened(t, x.d, room)); !again.same(s) || len(x.d.Log()) != writes {
		t.Fatalf("behind %v: opened once more it is %v, want %v", x.last(), again, s)
	}
	lies(t, x.d.Image(), s)
	x.m.now, x.m.kept, x.failed = s.copied(), s, nil
	x.hold(t)
}

func (x *pair) last() []act { return x.acts[max(0, len(x.acts)-15):] }
