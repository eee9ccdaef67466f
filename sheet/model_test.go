package sheet_test

import (
	"math"
	"reflect"
	"slices"
	"testing"

	"chancel/api"
	"chancel/segment"
	"chancel/sheet"
)

// model: a sheet as the chapter's words tell it, in plain values alone.
type model struct {
	frozen bool
	segs   []api.Seg
}

// find: the first segment of that Id.
func (m model) find(id int) (api.Seg, bool) {
	for _, p := range m.segs {
		if p.Id == id {
			return p, true
		}
	}
	return api.Seg{}, false
}

// set: m with p in the place of each segment of its Id.
func (m model) set(p api.Seg) model {
	var l []api.Seg
	for _, q := range m.segs {
		if q.Id == p.Id {
			q = p
		}
		l = append(l, q)
	}
	return model{m.frozen, l}
}

// after: m with more behind each segment of that Id; false, if that is none, or two are of one Id then.
func (m model) after(id int, more []api.Seg) (model, bool) {
	var l []api.Seg
	_, found := m.find(id)
	for _, q := range m.segs {
		l = append(l, q)
		if q.Id == id {
			l = append(l, more...)
		}
	}
	if !found || twice(l) {
		return m, false
	}
	return model{m.frozen, l}, true
}

// twice: are two of l of one Id? Each is held against each.
func twice(l []api.Seg) bool {
	for i := range l {
		for j := range i {
			if l[i].Id == l[j].Id {
				return true
			}
		}
	}
	return false
}

// fork: the letters of m under new numbers.
func (m model) fork(first int, frozen bool) model {
	var l []api.Seg
	for _, q := range m.segs {
		l = append(l, api.Seg{Id: first, Label: q.Label, Text: q.Text})
		first++
	}
	return model{frozen, l}
}

// with: the segments of m that have a span or a site of mark.
func (m model) with(mark int) []api.Seg {
	var l []api.Seg
	for _, p := range m.segs {
		if has(p, mark) {
			l = append(l, p)
		}
	}
	return l
}

// has: has p a span or a site of mark?
func has(p api.Seg, mark int) bool {
	for _, x := range p.Spans {
		if x.Mark == mark {
			return true
		}
	}
	for _, x := range p.Sites {
		if x.Mark == mark {
			return true
		}
	}
	return false
}

// told: segments as plain values.
func told(l []segment.Segment) []api.Seg {
	var ps []api.Seg
	for _, x := range l {
		ps = append(ps, x.Plain())
	}
	return ps
}

// same: are both the same plain values? An empty list may be nil or not.
func same(a, b api.Seg) bool {
	return a.Id == b.Id && a.Label == b.Label && a.Text == b.Text && slices.Equal(a.Spans, b.Spans) && slices.Equal(a.Sites, b.Sites)
}

// alike: are both lists the same, one by one?
func alike(a, b []api.Seg) bool {
	return slices.EqualFunc(a, b, same)
}

// copied: l in memory of its own.
func copied(l []api.Seg) []api.Seg {
	c := slices.Clone(l)
	for i, p := range c {
		c[i].Spans, c[i].Sites = slices.Clone(p.Spans), slices.Clone(p.Sites)
	}
	return c
}

// edges: numbers at the ends of their range, and about 0.
func edges() []int {
	return []int{math.MinInt, math.MinInt + 1, -2, -1, 0, 1, 2, 5, 1 << 40, 1<<40 + 1, math.MaxInt - 1, math.MaxInt}
}

// seg: the segment of plain values that are right.
func seg(t *testing.T, p api.Seg) segment.Segment {
	t.Helper()
	x, ok := segment.Load(p)
	if !ok {
		t.Fatalf("segment.Load(%v): false", p)
	}
	return x
}

// segs: the segments of plain values that are right.
func segs(t *testing.T, l []api.Seg) []segment.Segment {
	t.Helper()
	var xs []segment.Segment
	for _, p := range l {
		xs = append(xs, seg(t, p))
	}
	return xs
}

// must: the sheet of plain values that are right.
func must(t *testing.T, frozen bool, l []api.Seg) sheet.Sheet {
	t.Helper()
	s, ok := sheet.Load(frozen, l)
	if !ok {
		t.Fatalf("Load(%v): false", l)
	}
	return s
}

// is asks of s all that is told of it, m being what it must be.
func is(t *testing.T, s sheet.Sheet, m model) {
	t.Helper()
	if s.Frozen() != m.frozen {
		t.Fatalf("Frozen: %v, of %v", s.Frozen(), m.segs)
	}
	if got := s.Plain(); !alike(got, m.segs) {
		t.Fatalf("Plain: %v, not %v", got, m.segs)
	}
	if got := told(s.Segs()); !alike(got, m.segs) {
		t.Fatalf("Segs: %v, not %v", got, m.segs)
	}
	for _, p := range m.segs {
		finds(t, s, m, p.Id)
		finds(t, s, m, p.Id+1)
	}
	if again, ok := sheet.Load(s.Frozen(), s.Plain()); !ok || again.Frozen() != m.frozen || !alike(again.Plain(), m.segs) {
		t.Fatalf("what is told can't be loaded: %v", s.Plain())
	}
}

// finds asks s for that Id.
func finds(t *testing.T, s sheet.Sheet, m model, id int) {
	t.Helper()
	want, found := m.find(id)
	got, ok := s.Find(id)
	if ok != found || !same(got.Plain(), want) {
		t.Fatalf("Find(%d) of %v: %v, %v", id, m.segs, got.Plain(), ok)
	}
	if !ok && !reflect.DeepEqual(got, segment.Segment{}) {
		t.Fatalf("Find(%d): not the zero value", id)
	}
}
