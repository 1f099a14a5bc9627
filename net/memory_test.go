package net_test

import (
	"math"
	"math/rand"
	"reflect"
	"slices"
	"strings"
	"testing"
	"unsafe"

	"aumbry/api"
	"aumbry/net"
	"aumbry/rule"
	"aumbry/term"
)

// span is where something lies in memory, its spare room included. As long as the span is there that isn't used again, for another answer perhaps.
type span struct {
	from, to uintptr
	kept     unsafe.Pointer
}

func spanAt(kept unsafe.Pointer, size uintptr) span {
	return span{uintptr(kept), uintptr(kept) + size, kept}
}

func textSpan(s string) span {
	return spanAt(unsafe.Pointer(unsafe.StringData(s)), uintptr(len(s)))
}

func listSpan[T any](l []T) span {
	var one T
	return spanAt(unsafe.Pointer(unsafe.SliceData(l)), uintptr(cap(l))*unsafe.Sizeof(one))
}

func termSpans(t api.Term) []span {
	l := []span{listSpan(t)}
	for _, c := range t {
		l = append(l, textSpan(c.Name))
	}
	return l
}

func bindSpans(binds []api.Bind) []span {
	l := []span{listSpan(binds)}
	for _, b := range binds {
		l = append(append(l, textSpan(b.Name)), termSpans(b.Value)...)
	}
	return l
}

func rulesSpans(rules []api.Rule) []span {
	l := []span{listSpan(rules)}
	for _, r := range rules {
		l = slices.Concat(l, termSpans(r.Left), termSpans(r.Right))
	}
	return l
}

// apart reports whether no two of the spans have memory in common.
func apart(spans []span) bool {
	spans = slices.DeleteFunc(slices.Clone(spans), func(s span) bool { return s.from == s.to })
	slices.SortFunc(spans, func(a, b span) int {
		if a.from < b.from {
			return -1
		}
		return 1
	})
	for i := 1; i < len(spans); i++ {
		if spans[i].from < spans[i-1].to {
			return false
		}
	}
	return true
}

// ink is a text whose bytes can be written over behind its back, as those of one can that lies in a buffer.
type ink struct{ bytes []byte }

func (k *ink) text(s string) string {
	k.bytes = append(make([]byte, 0, len(s)), s...)
	return unsafe.String(unsafe.SliceData(k.bytes), len(s))
}

// inked is rules and terms of which all can be written over: cells, spare room and names.
type inked struct{ inks []*ink }

func (k *inked) name(s string) string {
	one := &ink{}
	k.inks = append(k.inks, one)
	return one.text(s)
}

func (k *inked) term(t *testing.T, s string) api.Term {
	t.Helper()
	cells := append(make(api.Term, 0, 70), read(t, s)...)
	for i := range cells {
		cells[i].Name = k.name(cells[i].Name)
	}
	for i := len(cells); i < cap(cells); i++ {
		cells[:cap(cells)][i] = api.Cell{Name: k.name("spare"), Arity: i}
	}
	return cells
}

func (k *inked) rules(t *testing.T, texts []string) []api.Rule {
	t.Helper()
	rules := make([]api.Rule, 0, len(texts)+5)
	for i, s := range texts {
		left, right, _ := strings.Cut(s, " -> ")
		rules = append(rules, api.Rule{ID: idOf(i), Left: k.term(t, left), Right: k.term(t, right)})
	}
	for i := len(rules); i < cap(rules); i++ {
		rules[:cap(rules)][i] = api.Rule{ID: i, Left: k.term(t, "left"), Right: k.term(t, "right")}
	}
	return rules
}

// spoil writes q over every byte of every name.
func (k *inked) spoil() {
	for _, one := range k.inks {
		for i := range one.bytes {
			one.bytes[i] = 'q'
		}
	}
}

func wholeOf[T any](l []T) []T { return l[:cap(l)] }

// opened answers rules with the spare room of their lists as their part.
func opened(rules []api.Rule) []api.Rule {
	rules = slices.Clone(wholeOf(rules))
	for i := range rules {
		rules[i].Left, rules[i].Right = wholeOf(rules[i].Left), wholeOf(rules[i].Right)
	}
	return rules
}

func spoilRules(rules []api.Rule) {
	for _, r := range wholeOf(rules) {
		for i := range wholeOf(r.Left) {
			wholeOf(r.Left)[i] = api.Cell{Name: "q", Arity: 3}
		}
		clear(wholeOf(r.Right))
	}
	for i := range wholeOf(rules) {
		wholeOf(rules)[i] = api.Rule{ID: 1, Left: api.Term{{Name: "q"}}, Right: api.Term{{Name: "q"}}}
	}
}

var memoryRules = []string{"g(X,X) -> X", "g(a,Y) -> Y", "g(X,Y) -> g(Y,X)", "g(Y,X) -> X", "h(D,C,B,A) -> A", "s(X) -> s(s(X))", "a -> b", "s(a) -> a", "f(X) -> f(X)"}

var memoryTerms = []string{"g(a,a)", "g(a,b)", "g(b,a)", "g(s(X),Y)", "h(s(a),s(a),b,X)", "s(X)", "s(s(a))", "a", "b", tower(64, "a"), "g(" + tower(31, "b") + "," + tower(31, "b") + ")"}

func wants(t *testing.T) []answer {
	t.Helper()
	m := build(t, book(t, memoryRules...))
	var l []answer
	for _, s := range memoryTerms {
		l = append(l, m.byTexts(s))
	}
	return l
}

// TestNewMemory: what is answered lies apart from what is handed in, from what the net keeps, as far as earlier answers show that, and from every other answer (R4).
func TestNewMemory(t *testing.T) {
	var k inked
	rules := k.rules(t, memoryRules)
	given := rulesSpans(rules)
	var nets []*net.Net
	for range 2 {
		n, e := net.Build(rules)
		if e != api.OK {
			t.Fatal(e)
		}
		nets = append(nets, n)
	}
	for _, s := range memoryTerms {
		x := k.term(t, s)
		given = append(given, termSpans(x)...)
		for _, n := range append(nets, nets...) {
			_, binds, _ := n.First(x)
			given = slices.Concat(given, bindSpans(binds), []span{listSpan(n.All(x))})
		}
	}
	if !apart(given) {
		t.Error("answers share memory with what was handed in, or with each other")
	}
}

// TestHandedInStays: no call changes what it is handed, spare room included (R4).
func TestHandedInStays(t *testing.T) {
	var k, other inked
	rules := k.rules(t, memoryRules)
	n, e := net.Build(rules)
	if e != api.OK {
		t.Fatal(e)
	}
	for _, s := range memoryTerms {
		x := k.term(t, s)
		n.First(x)
		n.All(x)
		n.Len()
		if !slices.Equal(wholeOf(x), wholeOf(other.term(t, s))) {
			t.Errorf("%s has changed", s)
		}
	}
	if !reflect.DeepEqual(opened(rules), opened(other.rules(t, memoryRules))) {
		t.Error("the rules have changed")
	}
}

// TestRulesWrittenOver: a net keeps nothing of the rules that were handed in as it is, no cell and no byte of a name (R4).
func TestRulesWrittenOver(t *testing.T) {
	want := wants(t)
	for what, over := range map[string]func(k *inked, rules []api.Rule){
		"cells":           func(k *inked, rules []api.Rule) { spoilRules(rules) },
		"names":           func(k *inked, rules []api.Rule) { k.spoil() },
		"names and cells": func(k *inked, rules []api.Rule) { k.spoil(); spoilRules(rules) },
		"IDs": func(k *inked, rules []api.Rule) {
			for i := range rules {
				rules[i].ID = 100 - i
			}
		},
		"the order": func(k *inked, rules []api.Rule) { slices.Reverse(rules) },
	} {
		var k inked
		rules := k.rules(t, memoryRules)
		n, e := net.Build(rules)
		if e != api.OK {
			t.Fatal(e)
		}
		over(&k, rules)
		m := modelled{n: n}
		for i, s := range memoryTerms {
			if got := m.asked(read(t, s)); !same(got, want[i]) || n.Len() != len(memoryRules) {
				t.Errorf("%s written over: of %s %v, want %v", what, s, got, want[i])
			}
		}
	}
}

// TestTermWrittenOver: what was told of a term stays, and the net too, when the term is written over.
func TestTermWrittenOver(t *testing.T) {
	want := wants(t)
	m := build(t, book(t, memoryRules...))
	for range 2 {
		for i, s := range memoryTerms {
			var k inked
			x := k.term(t, s)
			id, binds, ok := m.n.First(x)
			all := m.n.All(x)
			k.spoil()
			clear(wholeOf(x))
			if got := (answer{id, show(binds), ok, all}); !same(got, want[i]) {
				t.Errorf("of %s, written over: %v, want %v", s, got, want[i])
			}
		}
	}
}

// TestAnswersWrittenOver: an answer that is written over, its spare room too, moves no other answer and none that comes later.
func TestAnswersWrittenOver(t *testing.T) {
	want := wants(t)
	m := build(t, book(t, memoryRules...))
	for range 3 {
		for i, s := range memoryTerms {
			x := read(t, s)
			id, binds, ok := m.n.First(x)
			_, again, _ := m.n.First(x)
			all, allAgain := m.n.All(x), m.n.All(x)
			// Each value is written over alone: the others are to stay.
			for j := range binds {
				clear(wholeOf(binds[j].Value))
				binds[j].Value = read(t, want[i].binds[j].value)
				if !slices.Equal(show(binds), want[i].binds) {
					t.Errorf("of %s: what bind %d tells is part of another", s, j)
				}
			}
			for _, b := range binds {
				clear(wholeOf(b.Value))
			}
			clear(wholeOf(binds))
			clear(wholeOf(all))
			if got := (answer{id, show(again), ok, allAgain}); !same(got, want[i]) || text(x) != s {
				t.Errorf("of %s: %v, want %v", s, got, want[i])
			}
		}
	}
}

func anyCells(r *rand.Rand) api.Term {
	cells := make(api.Term, r.Intn(3)*r.Intn(4)*r.Intn(9))
	for i := range cells {
		cells[i] = api.Cell{Name: []string{"", "a", "f", "X", "a", "aX", "\xff", "abcdefghi"}[r.Intn(8)], Arity: []int{0, 0, 0, 1, 1, 2, 4, 5, -1, math.MaxInt, math.MinInt}[r.Intn(11)]}
	}
	return cells
}

func anyTerm(r *rand.Rand) api.Term {
	switch r.Intn(4) {
	case 0:
		return api.Term{{Name: "a"}}
	case 1:
		return api.Term{{Name: "f", Arity: 1}, {Name: []string{"a", "X", "Y"}[r.Intn(3)]}}
	}
	return anyCells(r)
}

// TestAnything: every call ends, none panics, at any rules and any cells (R1), and the errors are those that the sentence names first.
func TestAnything(t *testing.T) {
	r := rand.New(rand.NewSource(7))
	right := 0
	for range 30000 {
		var rules []api.Rule
		for i := range r.Intn(4) {
			rules = append(rules, api.Rule{ID: []int{i, i, i, i + 4, 1, 65535, 65536, -1, math.MaxInt}[r.Intn(9)], Left: anyTerm(r), Right: []api.Term{{{Name: "a"}}, anyTerm(r)}[r.Intn(2)]})
		}
		want := api.OK
		for i := 1; i < len(rules); i++ {
			if rules[i].ID <= rules[i-1].ID {
				want = api.ErrOrder
			}
		}
		for _, one := range slices.Backward(rules) {
			if e := rule.Check(one); e != api.OK {
				want = e
			}
		}
		n, e := net.Build(rules)
		if e != want || (n == nil) != (want != api.OK) {
			t.Errorf("Build(%v) = %v, %v, want %v", rules, n, e, want)
		}
		x := anyTerm(r)
		switch {
		case n == nil || term.Check(x) != api.OK:
			if !nothing(n, x) {
				t.Errorf("net of %v: something is told of %v", rules, x)
			}
		default:
			right++
			build(t, rules).hold(t, x)
		}
	}
	if right < 1000 {
		t.Errorf("only %d rules and terms were right", right)
	}
}
