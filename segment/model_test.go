package segment_test

import (
	"cmp"
	"slices"
	"testing"

	"chancel/api"
	"chancel/rope"
	"chancel/segment"
)

// letter: of a model's text: what it is, and the mark that it was put under (0: none).
type letter struct {
	is   rune
	mark int
}

// model: a segment as the chapter's words tell it, letter by letter and site by site.
type model struct {
	id, label int
	letters   []letter
	sites     map[api.Site]int
}

// text: what letters say.
func text(l []letter) string {
	s := ""
	for _, x := range l {
		s += string(x.is)
	}
	return s
}

// clamp: at, of a text of n letters.
func clamp(at, n int) int {
	if at < 0 {
		return 0
	}
	if at > n {
		return n
	}
	return at
}

// stretch: the first place of n letters from at on, and the place behind them, by counting.
func (m model) stretch(at, n int) (int, int) {
	from := clamp(at, len(m.letters))
	to := from
	for i := 0; i < n && to < len(m.letters); i++ {
		to++
	}
	return from, to
}

// move: m with each site where to says that it goes; one that is to go below 0 is gone.
func (m model) move(to func(at int) int) model {
	sites := map[api.Site]int{}
	for x := range m.sites {
		if at := to(x.At); at >= 0 {
			sites[api.Site{Mark: x.Mark, At: at}] = 1
		}
	}
	m.sites = sites
	return m
}

// stay: where each site stays.
func stay(at int) int {
	return at
}

// put: m with s at the place at, under mark.
func (m model) put(at int, s string, mark int) model {
	var l []letter
	for _, c := range s {
		l = append(l, letter{c, max(mark, 0)})
	}
	m.letters = slices.Concat(m.letters[:at], l, m.letters[at:])
	return m.move(func(x int) int {
		if x > at {
			return x + len(l)
		}
		return x
	})
}

// take: m without the letters from a to b, under mark.
func (m model) take(a, b, mark int) model {
	m.letters = slices.Concat(m.letters[:a], m.letters[b:])
	m = m.move(func(x int) int {
		switch {
		case x <= a:
			return x
		case x <= b:
			return a
		}
		return x - (b - a)
	})
	if mark > 0 {
		m.sites[api.Site{Mark: mark, At: a}] = 1
	}
	return m
}

// forget: m without mark.
func (m model) forget(mark int) model {
	m.letters = slices.Clone(m.letters)
	for i := range m.letters {
		if m.letters[i].mark == mark {
			m.letters[i].mark = 0
		}
	}
	m = m.move(stay)
	for x := range m.sites {
		if x.Mark == mark {
			delete(m.sites, x)
		}
	}
	return m
}

// unput: m without the letters of mark, and without mark.
func (m model) unput(mark int) model {
	for i := 0; i < len(m.letters); {
		if mark > 0 && m.letters[i].mark == mark {
			m = m.take(i, i+1, 0)
		} else {
			i++
		}
	}
	return m.forget(mark)
}

// site: the first place at which m has a site of mark.
func (m model) site(mark int) (int, bool) {
	for at := range len(m.letters) + 1 {
		if m.sites[api.Site{Mark: mark, At: at}] > 0 {
			return at, true
		}
	}
	return 0, false
}

// has: has m a letter or a site of mark?
func (m model) has(mark int) bool {
	_, ok := m.site(mark)
	for _, x := range m.letters {
		ok = ok || mark > 0 && x.mark == mark
	}
	return ok
}

// part: the letters of m ahead of a, those from a to b without marks, and those from b on, each with its sites; those at a place are ahead of it.
func (m model) part(a, b int) (model, model, model) {
	first, second, third := m, m, m
	first.letters, second.letters, third.letters = m.letters[:a], nil, m.letters[b:]
	for _, x := range m.letters[a:b] {
		second.letters = append(second.letters, letter{x.is, 0})
	}
	first = first.move(func(x int) int {
		if x > a {
			return -1
		}
		return x
	})
	second.sites = nil
	third = third.move(func(x int) int {
		if x <= b {
			return -1
		}
		return x - b
	})
	return first, second, third
}

// told: m as plain values.
func (m model) told() api.Seg {
	s := api.Seg{Id: m.id, Label: m.label, Text: text(m.letters)}
	for i, x := range m.letters {
		last := len(s.Spans) - 1
		switch {
		case x.mark == 0:
		case i > 0 && m.letters[i-1].mark == x.mark:
			s.Spans[last].To++
		default:
			s.Spans = append(s.Spans, api.Span{Mark: x.mark, From: i, To: i + 1})
		}
	}
	for x := range m.sites {
		s.Sites = append(s.Sites, x)
	}
	slices.SortFunc(s.Sites, func(x, y api.Site) int {
		return cmp.Or(x.At-y.At, x.Mark-y.Mark)
	})
	return s
}

// same: are both the same plain values? An empty list may be nil or not.
func same(a, b api.Seg) bool {
	return a.Id == b.Id && a.Label == b.Label && a.Text == b.Text && slices.Equal(a.Spans, b.Spans) && slices.Equal(a.Sites, b.Sites)
}

// copied: s in memory of its own.
func copied(s api.Seg) api.Seg {
	s.Spans, s.Sites = slices.Clone(s.Spans), slices.Clone(s.Sites)
	return s
}

// of: the rope of a right text.
func of(t *testing.T, s string) *rope.Rope {
	t.Helper()
	r, ok := rope.New(s)
	if !ok {
		t.Fatalf("no rope of %q", s)
	}
	return r
}

// must: the segment of plain values that are right.
func must(t *testing.T, p api.Seg) segment.Segment {
	t.Helper()
	s, ok := segment.Load(p)
	if !ok {
		t.Fatalf("Load(%v): false", p)
	}
	return s
}

// is asks of s all that is told of it, p being what it must be.
func is(t *testing.T, s segment.Segment, p api.Seg) {
	t.Helper()
	if got := s.Plain(); !same(got, p) {
		t.Fatalf("%v, not %v", got, p)
	}
	if s.Id() != p.Id || s.Label() != p.Label || s.Rope().Text() != p.Text {
		t.Fatalf("Id %d, Label %d, Rope %q of %v", s.Id(), s.Label(), s.Rope().Text(), p)
	}
	if _, ok := segment.Load(s.Plain()); !ok {
		t.Fatalf("what is told is not right: %v", s.Plain())
	}
}
