package undo_test

import (
	"math"
	"reflect"
	"slices"
	"testing"

	"chancel/api"
	"chancel/rope"
	"chancel/undo"
)

// model: a stack as the chapter's words tell it, in plain values alone, the last one on top.
type model []api.Undo

// push: m with u on top; the lowest one, and true, if it had to go.
func (m model) push(u api.Undo, depth int) (model, api.Undo, bool) {
	if depth < 1 {
		depth = 1
	}
	l := append(slices.Clone(m), u)
	if len(l) > depth {
		return l[1:], l[0], true
	}
	return l, api.Undo{}, false
}

// last: the uppermost one of that document.
func (m model) last(doc int) (api.Undo, bool) {
	var u api.Undo
	found := false
	for _, x := range m {
		if x.Doc == doc {
			u, found = x, true
		}
	}
	return u, found
}

// drop: m without those of mark.
func (m model) drop(mark int) model {
	var l model
	for _, x := range m {
		if x.Mark != mark {
			l = append(l, x)
		}
	}
	return l
}

// ropeOf: the rope of a right text.
func ropeOf(t *testing.T, s string) *rope.Rope {
	t.Helper()
	r, ok := rope.New(s)
	if !ok {
		t.Fatalf("rope.New(%q): false", s)
	}
	return r
}

// thing: the thing that u tells.
func thing(t *testing.T, u api.Undo) any {
	t.Helper()
	if u.Kind == 1 {
		return undo.Put{Doc: u.Doc, Mark: u.Mark, Label: u.Label}
	}
	return undo.Took{Doc: u.Doc, Mark: u.Mark, Label: u.Label, Text: ropeOf(t, u.Text)}
}

// told: a thing as plain values; of anything else the test ends.
func told(t *testing.T, thing any) api.Undo {
	t.Helper()
	switch x := thing.(type) {
	case undo.Put:
		return api.Undo{Kind: 1, Doc: x.Doc, Mark: x.Mark, Label: x.Label}
	case undo.Took:
		return api.Undo{Kind: 2, Doc: x.Doc, Mark: x.Mark, Label: x.Label, Text: x.Text.Text()}
	}
	t.Fatalf("no thing: %v", thing)
	return api.Undo{}
}

// must: the stack of plain values that are right.
func must(t *testing.T, l []api.Undo) undo.Stack {
	t.Helper()
	s, ok := undo.Load(l)
	if !ok {
		t.Fatalf("Load(%v): false", l)
	}
	return s
}

// is asks of s all that is told of it, m being what it must be.
func is(t *testing.T, s undo.Stack, m model) {
	t.Helper()
	if got := s.Plain(); !slices.Equal(got, m) {
		t.Fatalf("Plain: %v, not %v", got, m)
	}
	for _, u := range m {
		lasts(t, s, m, u.Doc)
		lasts(t, s, m, u.Doc+1)
	}
	if again, ok := undo.Load(s.Plain()); !ok || !slices.Equal(again.Plain(), m) {
		t.Fatalf("what is told can't be loaded: %v", s.Plain())
	}
}

// lasts asks s for the last thing of that document.
func lasts(t *testing.T, s undo.Stack, m model, doc int) {
	t.Helper()
	want, found := m.last(doc)
	got, ok := s.Last(doc)
	if ok != found {
		t.Fatalf("Last(%d) of %v: %v, %v", doc, m, got, ok)
	}
	if !ok && got != nil {
		t.Fatalf("Last(%d) of %v: %v beside false", doc, m, got)
	}
	if ok && told(t, got) != want {
		t.Fatalf("Last(%d) of %v: %v", doc, m, told(t, got))
	}
}

// pushes puts u on s, of which m is told, and looks at what is answered.
func pushes(t *testing.T, s undo.Stack, m model, u api.Undo, depth int) (undo.Stack, model) {
	t.Helper()
	want, lowest, gone := m.push(u, depth)
	got, out := s.Push(thing(t, u), depth)
	is(t, got, want)
	if gone && told(t, out) != lowest || !gone && out != nil {
		t.Fatalf("Push(%v, %d) on %v: out is %v", u, depth, m, out)
	}
	return got, want
}

// zero: is s the zero value?
func zero(s undo.Stack) bool {
	return reflect.DeepEqual(s, undo.Stack{})
}

// edges: numbers at the ends of their range, and about 0.
func edges() []int {
	return []int{math.MinInt, math.MinInt + 1, -2, -1, 0, 1, 2, 3, 5, 1 << 40, math.MaxInt - 1, math.MaxInt}
}
