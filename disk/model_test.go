package disk_test

import (
	"math/rand"
	"slices"
	"strings"
	"testing"

	"aumbry/api"
	"aumbry/disk"
)

// block is a block of one byte, so often.
func block(b byte) string { return strings.Repeat(string([]byte{b}), api.BlockSize) }

var zeros = string(make([]byte, 256))

// drawn is a block of any bytes.
func drawn(r *rand.Rand) string {
	b := make([]byte, api.BlockSize)
	r.Read(b)
	return string(b)
}

// drawnBlocks are n blocks, some of them the same.
func drawnBlocks(r *rand.Rand, n int) []string {
	l := make([]string, n)
	for i := range l {
		switch r.Intn(4) {
		case 0:
			l[i] = zeros
		case 1:
			l[i] = l[r.Intn(i+1)]
		}
		if l[i] == "" {
			l[i] = drawn(r)
		}
	}
	return l
}

// What a disk can go through.
const (
	write = iota
	read
	cut
	restore
)

// act is one call: what, with which arguments, and what was answered.
type act struct {
	what, at int
	s        string
	e        api.Errno
}

// past is a model of a disk: it keeps no state, only the blocks at the beginning and all that was done, and looks back for whatever it is asked.
type past struct {
	first []string
	acts  []act
}

// sinceRestore answers what was done since the power was turned on last.
func (p past) sinceRestore() []act {
	for i, a := range slices.Backward(p.acts) {
		if a.what == restore {
			return p.acts[i+1:]
		}
	}
	return p.acts
}

// down: a write that had its block and its form was refused.
func (p past) down() bool {
	return slices.ContainsFunc(p.sinceRestore(), func(a act) bool { return a.what == write && a.e == api.ErrDown })
}

// failsNow: since the last word on a cut so many writes were done as it told.
func (p past) failsNow() bool {
	done := 0
	for _, a := range slices.Backward(p.sinceRestore()) {
		switch {
		case a.what == cut:
			return a.at == done
		case a.what == write && a.e == api.OK:
			done++
		}
	}
	return false
}

func (p past) log() []api.Page {
	var l []api.Page
	for _, a := range p.acts {
		if a.what == write && a.e == api.OK {
			l = append(l, api.Page{At: a.at, Data: a.s})
		}
	}
	return l
}

func (p past) block(at int) string {
	for _, page := range slices.Backward(p.log()) {
		if page.At == at {
			return page.Data
		}
	}
	return p.first[at]
}

func (p past) image() []string {
	l := slices.Clone(p.first)
	for _, page := range p.log() {
		l[page.At] = page.Data
	}
	return l
}

// want answers what a call is to answer.
func (p past) want(a act) (string, api.Errno) {
	switch {
	case a.what == cut || a.what == restore:
		return "", api.OK
	case p.down():
		return "", api.ErrDown
	case !(0 <= a.at && a.at < len(p.first)):
		return "", api.ErrRange
	case a.what == read:
		return p.block(a.at), api.OK
	case len(a.s) != 256:
		return "", api.ErrForm
	case p.failsNow():
		return "", api.ErrDown
	}
	return "", api.OK
}

// pair is a disk, and the model of what it is to tell.
type pair struct {
	d *disk.Disk
	p past
}

func begin(t *testing.T, first []string) *pair {
	t.Helper()
	d, e := disk.Of(first)
	if e != api.OK || d == nil {
		t.Fatalf("Of %d blocks: %v, %v", len(first), d, e)
	}
	return &pair{d, past{first: slices.Clone(first)}}
}

// do does a to the disk, and holds the answer against the model's.
func (x *pair) do(t *testing.T, a act) {
	t.Helper()
	var s string
	var e api.Errno
	switch a.what {
	case write:
		e = x.d.Write(a.at, a.s)
	case read:
		s, e = x.d.Read(a.at)
	case cut:
		x.d.Cut(a.at)
	case restore:
		x.d.Restore()
	}
	wantS, wantE := x.p.want(a)
	if s != wantS || e != wantE {
		t.Fatalf("behind %s: %s = %.9q, %v, want %.9q, %v", tell(x.p.acts), tell([]act{a}), s, e, wantS, wantE)
	}
	a.e = e
	x.p.acts = append(x.p.acts, a)
	if x.d.Down() != x.p.down() {
		t.Fatalf("behind %s: Down = %v", tell(x.p.acts), x.d.Down())
	}
}

// hold holds all that can be asked without doing anything against the model.
func (x *pair) hold(t *testing.T) {
	t.Helper()
	for range 2 {
		if x.d.Len() != len(x.p.first) || x.d.Down() != x.p.down() {
			t.Fatalf("behind %s: Len = %d, Down = %v", tell(x.p.acts), x.d.Len(), x.d.Down())
		}
		if !slices.Equal(x.d.Log(), x.p.log()) {
			t.Fatalf("behind %s: the log is another", tell(x.p.acts))
		}
		if !slices.Equal(x.d.Image(), x.p.image()) {
			t.Fatalf("behind %s: the image is another", tell(x.p.acts))
		}
	}
	x.replay(t)
}

// replay: the disk's own log, done to the blocks that it began with, makes its image (P9.5).
func (x *pair) replay(t *testing.T) {
	t.Helper()
	again, e := disk.Of(x.p.first)
	if e != api.OK {
		t.Fatal(e)
	}
	for _, page := range x.d.Log() {
		if e := again.Write(page.At, page.Data); e != api.OK {
			t.Fatalf("behind %s: the log's write at %d: %v", tell(x.p.acts), page.At, e)
		}
	}
	if !slices.Equal(again.Image(), x.d.Image()) || !slices.Equal(again.Log(), x.d.Log()) {
		t.Fatalf("behind %s: the log doesn't make the image", tell(x.p.acts))
	}
}

// tell writes the last acts of a list.
func tell(acts []act) string {
	words := []string{}
	for _, a := range acts[max(0, len(acts)-12):] {
		words = append(words, []string{"write", "read", "cut", "restore"}[a.what]+" "+num(a.at)+" ("+num(len(a.s))+" bytes)")
	}
	return "[" + strings.Join(words, ", ") + "]"
}

func num(n int) string {
	if n < 0 {
		return "below 0"
	}
	if n < 10 {
		return string(rune('0' + n))
	}
	return num(n/10) + num(n%10)
}
