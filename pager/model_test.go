package pager_test

import (
	"fmt"
	"math/rand"
	"slices"
	"strings"
	"testing"

	"aumbry/api"
	"aumbry/disk"
	"aumbry/journal"
	"aumbry/pager"
)

var zeros = strings.Repeat("\x00", 256)

// filled is a block of one byte, so often.
func filled(b byte) string { return strings.Repeat(string([]byte{b}), 256) }

// drawn is a block of any bytes.
func drawn(r *rand.Rand) string {
	b := make([]byte, 256)
	r.Read(b)
	return string(b)
}

// drawnBlocks are n blocks, of which the journal's head is none for a group.
func drawnBlocks(r *rand.Rand, n int) []string {
	l := make([]string, n)
	for i := range l {
		l[i] = drawn(r)
	}
	l[1] = zeros
	return l
}

func diskOf(t testing.TB, blocks []string) *disk.Disk {
	t.Helper()
	d, e := disk.Of(blocks)
	if e != api.OK {
		t.Fatal(e)
	}
	return d
}

// pagesOf are the numbers of all pages of a disk of n blocks, by the words of layer 10's chapter.
func pagesOf(n int) []int {
	m := 0
	for k := range n {
		if 2*k+1+(k+127)/128 <= n {
			m = k
		}
	}
	l := []int{0}
	for i := range m - 1 {
		l = append(l, 1+1+(m+127)/128+m+i)
	}
	return l
}

// What can be done to a pager, and to the disk below it.
const (
	load = iota
	store
	pin
	unpin
	commit
	undo
	cut
	restore
)

// act is one call with its arguments.
type act struct {
	what, at int
	s        string
}

func (a act) String() string {
	word := []string{"load", "store", "pin", "unpin", "commit", "undo", "cut", "restore"}[a.what]
	if a.what == store {
		return fmt.Sprintf("%s %d %.2q(%d)", word, a.at, a.s, len(a.s))
	}
	return fmt.Sprintf("%s %d", word, a.at)
}

// row is what the model knows of one page: all in one place, with the time of its last use instead of a list of uses.
type row struct {
	at            int
	changed, held bool
	data          string
	pins, used    int
}

// model is the chapter by its words, over a disk of its own.
type model struct {
	d           *disk.Disk
	room        int
	rows        []row // by rising numbers, of all pages that there are
	time, reads int
}

func newModel(d *disk.Disk, room int) *model {
	m := &model{d: d, room: room}
	for _, at := range pagesOf(d.Len()) {
		m.rows = append(m.rows, row{at: at})
	}
	return m
}

func (m *model) row(at int) *row {
	for i := range m.rows {
		if m.rows[i].at == at {
			return &m.rows[i]
		}
	}
	return nil
}

func (m *model) count(is func(r row) bool) int {
	n := 0
	for _, r := range m.rows {
		if is(r) {
			n++
		}
	}
	return n
}

func (m *model) allPinned() bool {
	return m.count(func(r row) bool { return r.pins > 0 }) >= m.room
}

func (m *model) use(r *row) {
	m.time++
	r.used = m.time
}

func (m *model) hold(r *row, data string) {
	if m.allPinned() {
		return
	}
	if m.count(func(r row) bool { return r.held }) == m.room {
		var goes *row
		for i := range m.rows {
			o := &m.rows[i]
			if o.held && o.pins == 0 && (goes == nil || o.used < goes.used) {
				goes = o
			}
		}
		*goes = row{at: goes.at}
	}
	r.held, r.data = true, data
	m.use(r)
}

func (m *model) load(at int) (string, api.Errno) {
	r := m.row(at)
	switch {
	case r == nil:
		return "", api.ErrRange
	case r.changed:
		return r.data, api.OK
	case r.held:
		m.use(r)
		return r.data, api.OK
	}
	s, e := m.d.Read(at)
	if e == api.OK {
		m.reads++
		m.hold(r, s)
	}
	return s, e
}

func (m *model) store(at int, s string) api.Errno {
	r := m.row(at)
	switch {
	case r == nil:
		return api.ErrRange
	case len(s) != 256:
		return api.ErrForm
	case r.pins > 0:
		return api.ErrMany
	}
	*r = row{at: at, changed: true, data: s}
	return api.OK
}

func (m *model) pin(at int) api.Errno {
	r := m.row(at)
	switch {
	case r == nil:
		return api.ErrRange
	case r.changed:
		return api.ErrOrder
	case r.held:
		m.use(r)
		r.pins++
		return api.OK
	case m.allPinned():
		return api.ErrMany
	}
	_, e := m.load(at)
	if e == api.OK {
		r.pins = 1
	}
	return e
}

func (m *model) unpin(at int) api.Errno {
	r := m.row(at)
	if r == nil || r.pins == 0 {
		return api.ErrNone
	}
	r.pins--
	return api.OK
}

func (m *model) commit() api.Errno {
	var l []api.Page
	for _, r := range m.rows {
		if r.changed {
			l = append(l, api.Page{At: r.at, Data: r.data})
		}
	}
	if e := journal.Commit(m.d, l); e != api.OK {
		return e
	}
	m.undo()
	for _, p := range l {
		m.hold(m.row(p.At), p.Data)
	}
	return api.OK
}

func (m *model) undo() {
	for i, r := range m.rows {
		if r.changed {
			m.rows[i] = row{at: r.at}
		}
	}
}

func (m *model) dirty() []int {
	var l []int
	for _, r := range m.rows {
		if r.changed {
			l = append(l, r.at)
		}
	}
	return l
}

func (m *model) held() []int {
	l := slices.DeleteFunc(slices.Clone(m.rows), func(r row) bool { return !r.held })
	slices.SortFunc(l, func(a, b row) int { return a.used - b.used })
	var numbers []int
	for _, r := range l {
		numbers = append(numbers, r.at)
	}
	return numbers
}

// pair is a pager over a disk, and the model over another that goes through the same.
type pair struct {
	d    *disk.Disk
	p    *pager.Pager
	m    *model
	acts []act
}

func begin(t testing.TB, blocks []string, room int) *pair {
	t.Helper()
	d := diskOf(t, blocks)
	p, e := pager.New(d, room)
	if e != api.OK || p == nil {
		t.Fatalf("room %d: %v", room, e)
	}
	return &pair{d: d, p: p, m: newModel(diskOf(t, blocks), room)}
}

// do does a to both, holds the answers against each other, and what can be asked behind it. It answers the error.
func (x *pair) do(t testing.TB, a act) api.Errno {
	t.Helper()
	var got, want string
	var gotE, wantE api.Errno
	switch a.what {
	case load:
		got, gotE = x.p.Load(a.at)
		want, wantE = x.m.load(a.at)
	case store:
		gotE, wantE = x.p.Store(a.at, a.s), x.m.store(a.at, a.s)
	case pin:
		gotE, wantE = x.p.Pin(a.at), x.m.pin(a.at)
	case unpin:
		gotE, wantE = x.p.Unpin(a.at), x.m.unpin(a.at)
	case commit:
		gotE, wantE = x.p.Commit(), x.m.commit()
	case undo:
		x.p.Undo()
		x.m.undo()
	case cut:
		x.d.Cut(a.at)
		x.m.d.Cut(a.at)
	case restore:
		x.d.Restore()
		x.m.d.Restore()
	}
	x.acts = append(x.acts, a)
	if got != want || gotE != wantE {
		t.Fatalf("behind %v: %.9q, %v, want %.9q, %v", x.last(), got, gotE, want, wantE)
	}
	x.hold(t)
	return wantE
}

// hold: what is told of the pages is what the model tells, twice, and no more than room pages are held (P11.5, P11.6).
func (x *pair) hold(t testing.TB) {
	t.Helper()
	for range 2 {
		dirty, held := x.p.Dirty(), x.p.Held()
		if !slices.Equal(dirty, x.m.dirty()) || !slices.Equal(held, x.m.held()) || x.p.Reads() != x.m.reads {
			t.Fatalf("behind %v: changed %v, held %v, %d reads, want %v, %v, %d", x.last(), dirty, held, x.p.Reads(), x.m.dirty(), x.m.held(), x.m.reads)
		}
		if len(held) > x.m.room {
			t.Fatalf("behind %v: room %d, held %v", x.last(), x.m.room, held)
		}
	}
	if x.d.Down() != x.m.d.Down() {
		t.Fatalf("behind %v: down %v", x.last(), x.d.Down())
	}
}

// end: the same was written, block by block, and each page is as the model has it.
func (x *pair) end(t testing.TB) {
	t.Helper()
	if !slices.Equal(x.d.Log(), x.m.d.Log()) || !slices.Equal(x.d.Image(), x.m.d.Image()) {
		t.Fatalf("behind %v: something else was written", x.last())
	}
	for _, r := range x.m.rows {
		x.do(t, act{what: load, at: r.at})
	}
}

func (x *pair) last() []act { return x.acts[max(0, len(x.acts)-12):] }
