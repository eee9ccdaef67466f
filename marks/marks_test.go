package marks_test

import (
	"math"
	"math/rand"
	"reflect"
	"slices"
	"testing"

	"chancel/api"
	"chancel/marks"
)

// text: a text as the chapter's words tell it: of each letter its mark (0: none), and, at each place from 0 on to behind the last letter, the marks of the sites there.
type text struct {
	letters []int
	places  []map[int]struct{}
}

// blank: a text of n letters without marks.
func blank(n int) text {
	t := text{letters: make([]int, n)}
	for range n + 1 {
		t.places = append(t.places, map[int]struct{}{})
	}
	return t
}

// deep: a copy of t that shares nothing with it.
func (t text) deep() text {
	c := blank(len(t.letters))
	copy(c.letters, t.letters)
	for i, place := range t.places {
		for mark := range place {
			c.places[i][mark] = struct{}{}
		}
	}
	return c
}

// told: the marks of t: as few spans as there may be, and sites in order.
func (t text) told() marks.Marks {
	var m marks.Marks
	for from := 0; from < len(t.letters); {
		to := from
		for to < len(t.letters) && t.letters[to] == t.letters[from] {
			to++
		}
		if t.letters[from] > 0 {
			m.Spans = append(m.Spans, api.Span{Mark: t.letters[from], From: from, To: to})
		}
		from = to
	}
	for at, place := range t.places {
		var l []int
		for mark := range place {
			l = append(l, mark)
		}
		slices.Sort(l)
		for _, mark := range l {
			m.Sites = append(m.Sites, api.Site{Mark: mark, At: at})
		}
	}
	return m
}

// put: t with k letters at at, under mark.
func (t text) put(at, k, mark int) text {
	c := t.deep()
	letters := blank(k).letters
	for i := range letters {
		letters[i] = max(mark, 0)
	}
	c.letters = slices.Insert(c.letters, at, letters...)
	// The sites at at stay ahead of what is put; between its letters and behind them there is none.
	c.places = slices.Insert(c.places, at+1, blank(k).places[:k]...)
	return c
}

// take: t without the letters from a to b, under mark.
func (t text) take(a, b, mark int) text {
	c := t.deep()
	c.letters = slices.Delete(c.letters, a, b)
	for _, place := range c.places[a : b+1] {
		for x := range place {
			c.places[a][x] = struct{}{}
		}
	}
	c.places = slices.Delete(c.places, a+1, b+1)
	if mark > 0 {
		c.places[a][mark] = struct{}{}
	}
	return c
}

// part: t as two texts, parted at at; the sites at at are of the first one.
func (t text) part(at int) (text, text) {
	a, b := t.deep(), t.deep()
	a.letters, a.places = a.letters[:at], a.places[:at+1]
	b.letters, b.places = b.letters[at:], b.places[at:]
	clear(b.places[0])
	return a, b
}

// drop: t without mark.
func (t text) drop(mark int) text {
	c := t.deep()
	for i, x := range c.letters {
		if x == mark {
			c.letters[i] = 0
		}
	}
	for _, place := range c.places {
		delete(place, mark)
	}
	return c
}

// laid: the text of n letters that has the marks m; false, if m says what can't be of such a text.
func laid(m marks.Marks, n int) (text, bool) {
	t := blank(n)
	for _, x := range m.Spans {
		if x.Mark <= 0 || x.From < 0 || x.From >= x.To || x.To > n {
			return text{}, false
		}
		for i := x.From; i < x.To; i++ {
			t.letters[i] = x.Mark
		}
	}
	for _, x := range m.Sites {
		if x.Mark <= 0 || x.At < 0 || x.At > n {
			return text{}, false
		}
		t.places[x.At][x.Mark] = struct{}{}
	}
	// There is one way only to tell a text by right marks.
	return t, same(t.told(), m)
}

// same: are both the same marks? An empty list may be nil or not.
func same(a, b marks.Marks) bool {
	return slices.Equal(a.Spans, b.Spans) && slices.Equal(a.Sites, b.Sites)
}

// copied: m in memory of its own.
func copied(m marks.Marks) marks.Marks {
	return marks.Marks{Spans: slices.Clone(m.Spans), Sites: slices.Clone(m.Sites)}
}

// made: marks of spans {mark, from, to} and sites {mark, at}.
func made(spans [][3]int, sites [][2]int) marks.Marks {
	var m marks.Marks
	for _, x := range spans {
		m.Spans = append(m.Spans, api.Span{Mark: x[0], From: x[1], To: x[2]})
	}
	for _, x := range sites {
		m.Sites = append(m.Sites, api.Site{Mark: x[0], At: x[1]})
	}
	return m
}

// small: each text of n letters, each of them and each site under 1, under 2 or under none.
func small(n int, see func(text)) {
	ways := 1
	for range n {
		ways *= 3
	}
	for range n + 1 {
		ways *= 4
	}
	for way := range ways {
		t := blank(n)
		for i := range t.letters {
			t.letters[i] = way % 3
			way /= 3
		}
		for _, place := range t.places {
			for mark := 1; mark <= 2; mark++ {
				if way%2 == 1 {
					place[mark] = struct{}{}
				}
				way /= 2
			}
		}
		see(t)
	}
}

// drawn: a text of up to 30 letters and some sites, drawn at random.
func drawn(r *rand.Rand) text {
	t := blank(r.Intn(31))
	for i := range t.letters {
		t.letters[i] = r.Intn(4)
		if i > 0 && r.Intn(2) == 0 {
			t.letters[i] = t.letters[i-1]
		}
	}
	for range r.Intn(12) {
		t.places[r.Intn(len(t.places))][1+r.Intn(5)] = struct{}{}
	}
	return t
}

// checkPut asks Put once.
func checkPut(t *testing.T, x text, at, k, mark int) {
	t.Helper()
	m := x.told()
	before := copied(m)
	got, want := marks.Put(m, at, k, mark), x.put(at, k, mark).told()
	if !same(got, want) || !same(m, before) {
		t.Fatalf("Put(%v, %d, %d, %d) of %d letters: %v, not %v", before, at, k, mark, len(x.letters), got, want)
	}
	if !marks.Right(got, len(x.letters)+k) {
		t.Fatalf("Put(%v, %d, %d, %d): not right: %v", before, at, k, mark, got)
	}
}

// checkTake asks Take once.
func checkTake(t *testing.T, x text, a, b, mark int) {
	t.Helper()
	m := x.told()
	before := copied(m)
	got, want := marks.Take(m, a, b, mark), x.take(a, b, mark).told()
	if !same(got, want) || !same(m, before) {
		t.Fatalf("Take(%v, %d, %d, %d) of %d letters: %v, not %v", before, a, b, mark, len(x.letters), got, want)
	}
	if !marks.Right(got, len(x.letters)-(b-a)) {
		t.Fatalf("Take(%v, %d, %d, %d): not right: %v", before, a, b, mark, got)
	}
}

// checkPart asks Part once.
func checkPart(t *testing.T, x text, at int) {
	t.Helper()
	m := x.told()
	before := copied(m)
	a, b := marks.Part(m, at)
	first, second := x.part(at)
	if !same(a, first.told()) || !same(b, second.told()) || !same(m, before) {
		t.Fatalf("Part(%v, %d) of %d letters: %v, %v, not %v, %v", before, at, len(x.letters), a, b, first.told(), second.told())
	}
	if !marks.Right(a, at) || !marks.Right(b, len(x.letters)-at) {
		t.Fatalf("Part(%v, %d): not right: %v, %v", before, at, a, b)
	}
}

// checkDrop asks Drop and Of once.
func checkDrop(t *testing.T, x text, mark int) {
	t.Helper()
	m := x.told()
	before := copied(m)
	left := marks.Drop(m, mark)
	if want := x.drop(mark).told(); !same(left, want) || !same(m, before) || !marks.Right(left, len(x.letters)) {
		t.Fatalf("Drop(%v, %d): %v, not %v", before, mark, left, want)
	}
	var want marks.Marks
	var places []int
	for _, s := range m.Spans {
		if s.Mark == mark {
			want.Spans = append(want.Spans, s)
		}
	}
	for _, s := range m.Sites {
		if s.Mark == mark {
			places = append(places, s.At)
		}
	}
	spans, at := marks.Of(m, mark)
	if !slices.Equal(spans, want.Spans) || !slices.Equal(at, places) || !same(m, before) {
		t.Fatalf("Of(%v, %d): %v, %v", before, mark, spans, at)
	}
}

// P4.1: the examples of the chapter.
func TestP4_1Examples(t *testing.T) {
	m := made([][3]int{{7, 2, 6}}, nil)
	p := marks.Put(m, 4, 2, 8)
	if want := made([][3]int{{7, 2, 4}, {8, 4, 6}, {7, 6, 8}}, nil); !same(p, want) {
		t.Error(p)
	}
	if q := marks.Take(p, 4, 6, 0); !same(q, m) {
		t.Error(q)
	}
}

// P4.1: Right of what is right, and of what is wrong by one thing each.
func TestP4_1Right(t *testing.T) {
	for _, x := range []struct {
		spans [][3]int
		sites [][2]int
		n     int
		right bool
	}{
		{nil, nil, 0, true}, {nil, nil, 9, true},
		{[][3]int{{1, 0, 9}}, nil, 9, true}, {[][3]int{{1, 0, 10}}, nil, 9, false}, {[][3]int{{1, 8, 9}}, nil, 9, true}, {[][3]int{{1, 9, 10}}, nil, 9, false},
		{[][3]int{{0, 1, 2}}, nil, 9, false}, {[][3]int{{-1, 1, 2}}, nil, 9, false}, {[][3]int{{math.MaxInt, 1, 2}}, nil, 9, true}, {[][3]int{{math.MinInt, 1, 2}}, nil, 9, false},
		{[][3]int{{1, -1, 2}}, nil, 9, false}, {[][3]int{{1, -2, -1}}, nil, 9, false}, {[][3]int{{1, 2, 2}}, nil, 9, false}, {[][3]int{{1, 3, 2}}, nil, 9, false}, {[][3]int{{1, 0, 0}}, nil, 9, false},
		{[][3]int{{0, 0, 2}}, nil, 9, false}, {[][3]int{{1, 0, 1}}, nil, 0, false}, {[][3]int{{1, math.MinInt, math.MaxInt}}, nil, 9, false},
		{[][3]int{{1, 0, 2}, {2, 2, 4}}, nil, 9, true}, {[][3]int{{1, 0, 2}, {1, 2, 4}}, nil, 9, false}, {[][3]int{{1, 0, 2}, {1, 3, 4}}, nil, 9, true}, {[][3]int{{1, 0, 2}, {2, 3, 4}}, nil, 9, true},
		{[][3]int{{1, 0, 2}, {2, 1, 4}}, nil, 9, false}, {[][3]int{{1, 4, 5}, {2, 1, 3}}, nil, 9, false}, {[][3]int{{1, 0, 2}, {1, 0, 2}}, nil, 9, false}, {[][3]int{{1, 0, 2}, {2, 2, 2}, {1, 2, 4}}, nil, 9, false},
		{[][3]int{{2, 0, 2}, {1, 2, 4}, {2, 4, 6}}, nil, 9, true}, {[][3]int{{2, 0, 2}, {1, 2, 4}, {1, 4, 6}}, nil, 9, false}, {[][3]int{{2, 0, 2}, {1, 2, 4}, {2, 4, 6}}, nil, 5, false},
		{nil, [][2]int{{1, 0}}, 9, true}, {nil, [][2]int{{1, 9}}, 9, true}, {nil, [][2]int{{1, 10}}, 9, false}, {nil, [][2]int{{1, -1}}, 9, false}, {nil, [][2]int{{1, math.MinInt}}, 9, false}, {nil, [][2]int{{1, 0}}, 0, true}, {nil, [][2]int{{1, 1}}, 0, false},
		{nil, [][2]int{{0, 0}}, 9, false}, {nil, [][2]int{{0, 3}}, 9, false}, {nil, [][2]int{{-1, 3}}, 9, false}, {nil, [][2]int{{math.MaxInt, 3}}, 9, true},
		{nil, [][2]int{{1, 3}, {2, 3}}, 9, true}, {nil, [][2]int{{2, 3}, {1, 3}}, 9, false}, {nil, [][2]int{{1, 3}, {1, 3}}, 9, false}, {nil, [][2]int{{2, 3}, {1, 4}}, 9, true}, {nil, [][2]int{{1, 4}, {2, 3}}, 9, false}, {nil, [][2]int{{1, 3}, {1, 4}}, 9, true},
		{nil, [][2]int{{1, 3}, {2, 4}, {3, 10}}, 9, false}, {nil, [][2]int{{1, 3}, {0, 4}}, 9, false}, {nil, [][2]int{{1, 3}, {0, 3}}, 9, false},
		{[][3]int{{1, 0, 9}}, [][2]int{{1, 5}, {2, 5}, {1, 9}}, 9, true}, {[][3]int{{1, 0, 9}}, [][2]int{{1, 10}}, 9, false}, {[][3]int{{1, 0, 10}}, [][2]int{{1, 9}}, 9, false},
		{[][3]int{{1, 0, math.MaxInt}}, [][2]int{{1, math.MaxInt}}, math.MaxInt, true}, {[][3]int{{1, 0, 1}}, nil, -1, false}, {nil, [][2]int{{1, 0}}, -1, false}, {nil, [][2]int{{1, -1}}, -1, false}, {[][3]int{{1, -2, -1}}, nil, math.MinInt, false},
	} {
		if got := marks.Right(made(x.spans, x.sites), x.n); got != x.right {
			t.Errorf("Right of spans %v, sites %v, %d letters: %v", x.spans, x.sites, x.n, got)
		}
	}
}

// P4.1: Right of all lists of up to two spans, and of all lists of up to three sites, with small numbers.
func TestP4_1RightOfAll(t *testing.T) {
	const n = 3
	check := func(m marks.Marks) {
		if _, right := laid(m, n); marks.Right(m, n) != right {
			t.Fatalf("Right(%v, %d): %v", m, n, !right)
		}
	}
	var spans []api.Span
	var sites []api.Site
	for mark := -1; mark <= 2; mark++ {
		for at := -1; at <= n+1; at++ {
			sites = append(sites, api.Site{Mark: mark, At: at})
			for to := -1; to <= n+1; to++ {
				spans = append(spans, api.Span{Mark: mark, From: at, To: to})
			}
		}
	}
	check(marks.Marks{})
	for _, x := range spans {
		check(marks.Marks{Spans: []api.Span{x}})
		for _, y := range spans {
			check(marks.Marks{Spans: []api.Span{x, y}})
		}
	}
	for _, x := range sites {
		check(marks.Marks{Sites: []api.Site{x}})
		for _, y := range sites {
			check(marks.Marks{Sites: []api.Site{x, y}})
			for _, z := range sites {
				check(marks.Marks{Sites: []api.Site{x, y, z}})
			}
		}
	}
}

// P4.1: Right of marks that are right but for one number.
func TestP4_1RightOfChanged(t *testing.T) {
	r := rand.New(rand.NewSource(1))
	wrong := 0
	for range 20000 {
		x := drawn(r)
		m := x.told()
		n := len(x.letters)
		if !marks.Right(m, n) {
			t.Fatalf("Right(%v, %d): false", m, n)
		}
		by := r.Intn(5) - 2
		if i := r.Intn(len(m.Spans) + len(m.Sites) + 1); i < len(m.Spans) {
			for _, at := range []*int{&m.Spans[i].Mark, &m.Spans[i].From, &m.Spans[i].To} {
				if r.Intn(3) == 0 {
					*at += by
				}
			}
		} else if i -= len(m.Spans); i < len(m.Sites) {
			m.Sites[i].Mark += by
			m.Sites[i].At += r.Intn(3) - 1
		} else {
			n = max(n+by, 0)
		}
		_, right := laid(m, n)
		if !right {
			wrong++
		}
		if marks.Right(m, n) != right {
			t.Fatalf("Right(%v, %d): %v", m, n, !right)
		}
	}
	if wrong == 0 {
		t.Error("no marks were wrong")
	}
}

// P4.1: Put ahead of a span, in it, between two and behind it; under its mark, under another one and under none.
func TestP4_1Put(t *testing.T) {
	m := made([][3]int{{7, 2, 6}, {8, 6, 7}}, [][2]int{{3, 2}, {9, 4}, {1, 6}, {5, 6}})
	for _, x := range []struct {
		at, k, mark int
		spans       [][3]int
		sites       [][2]int
	}{
		{0, 2, 4, [][3]int{{4, 0, 2}, {7, 4, 8}, {8, 8, 9}}, [][2]int{{3, 4}, {9, 6}, {1, 8}, {5, 8}}},
		{2, 2, 4, [][3]int{{4, 2, 4}, {7, 4, 8}, {8, 8, 9}}, [][2]int{{3, 2}, {9, 6}, {1, 8}, {5, 8}}},
		{2, 2, 7, [][3]int{{7, 2, 8}, {8, 8, 9}}, [][2]int{{3, 2}, {9, 6}, {1, 8}, {5, 8}}},
		{4, 2, 7, [][3]int{{7, 2, 8}, {8, 8, 9}}, [][2]int{{3, 2}, {9, 4}, {1, 8}, {5, 8}}},
		{4, 2, 0, [][3]int{{7, 2, 4}, {7, 6, 8}, {8, 8, 9}}, [][2]int{{3, 2}, {9, 4}, {1, 8}, {5, 8}}},
		{4, 2, -7, [][3]int{{7, 2, 4}, {7, 6, 8}, {8, 8, 9}}, [][2]int{{3, 2}, {9, 4}, {1, 8}, {5, 8}}},
		{4, 0, 4, [][3]int{{7, 2, 6}, {8, 6, 7}}, [][2]int{{3, 2}, {9, 4}, {1, 6}, {5, 6}}},
		{6, 1, 7, [][3]int{{7, 2, 7}, {8, 7, 8}}, [][2]int{{3, 2}, {9, 4}, {1, 6}, {5, 6}}},
		{6, 1, 8, [][3]int{{7, 2, 6}, {8, 6, 8}}, [][2]int{{3, 2}, {9, 4}, {1, 6}, {5, 6}}},
		{6, 1, 0, [][3]int{{7, 2, 6}, {8, 7, 8}}, [][2]int{{3, 2}, {9, 4}, {1, 6}, {5, 6}}},
		{7, 3, 8, [][3]int{{7, 2, 6}, {8, 6, 10}}, [][2]int{{3, 2}, {9, 4}, {1, 6}, {5, 6}}},
		{9, 3, 8, [][3]int{{7, 2, 6}, {8, 6, 7}, {8, 9, 12}}, [][2]int{{3, 2}, {9, 4}, {1, 6}, {5, 6}}},
	} {
		if got, want := marks.Put(m, x.at, x.k, x.mark), made(x.spans, x.sites); !same(got, want) {
			t.Errorf("Put at %d of %d under %d: %v, not %v", x.at, x.k, x.mark, got, want)
		}
	}
}

// P4.1: Take of nothing, of parts of spans, of whole ones and of all.
func TestP4_1Take(t *testing.T) {
	m := made([][3]int{{7, 2, 4}, {8, 4, 6}, {7, 6, 8}}, [][2]int{{3, 2}, {9, 4}, {1, 5}, {3, 6}, {9, 9}})
	for _, x := range []struct {
		a, b, mark int
		spans      [][3]int
		sites      [][2]int
	}{
		{3, 3, 0, [][3]int{{7, 2, 4}, {8, 4, 6}, {7, 6, 8}}, [][2]int{{3, 2}, {9, 4}, {1, 5}, {3, 6}, {9, 9}}},
		{4, 4, 5, [][3]int{{7, 2, 4}, {8, 4, 6}, {7, 6, 8}}, [][2]int{{3, 2}, {5, 4}, {9, 4}, {1, 5}, {3, 6}, {9, 9}}},
		{4, 4, 9, [][3]int{{7, 2, 4}, {8, 4, 6}, {7, 6, 8}}, [][2]int{{3, 2}, {9, 4}, {1, 5}, {3, 6}, {9, 9}}},
		{4, 6, 0, [][3]int{{7, 2, 6}}, [][2]int{{3, 2}, {1, 4}, {3, 4}, {9, 4}, {9, 7}}},
		{4, 6, -1, [][3]int{{7, 2, 6}}, [][2]int{{3, 2}, {1, 4}, {3, 4}, {9, 4}, {9, 7}}},
		{4, 6, 2, [][3]int{{7, 2, 6}}, [][2]int{{3, 2}, {1, 4}, {2, 4}, {3, 4}, {9, 4}, {9, 7}}},
		{4, 6, 3, [][3]int{{7, 2, 6}}, [][2]int{{3, 2}, {1, 4}, {3, 4}, {9, 4}, {9, 7}}},
		{2, 6, 3, [][3]int{{7, 2, 4}}, [][2]int{{1, 2}, {3, 2}, {9, 2}, {9, 5}}},
		{3, 5, 0, [][3]int{{7, 2, 3}, {8, 3, 4}, {7, 4, 6}}, [][2]int{{3, 2}, {1, 3}, {9, 3}, {3, 4}, {9, 7}}},
		{0, 9, 9, nil, [][2]int{{1, 0}, {3, 0}, {9, 0}}},
		{8, 9, 0, [][3]int{{7, 2, 4}, {8, 4, 6}, {7, 6, 8}}, [][2]int{{3, 2}, {9, 4}, {1, 5}, {3, 6}, {9, 8}}},
		{0, 2, 4, [][3]int{{7, 0, 2}, {8, 2, 4}, {7, 4, 6}}, [][2]int{{3, 0}, {4, 0}, {9, 2}, {1, 3}, {3, 4}, {9, 7}}},
	} {
		if got, want := marks.Take(m, x.a, x.b, x.mark), made(x.spans, x.sites); !same(got, want) {
			t.Errorf("Take %d to %d under %d: %v, not %v", x.a, x.b, x.mark, got, want)
		}
	}
}

// P4.1: of Part, a site at the place is ahead, and one right behind it is 1 on in the others.
func TestP4_1Part(t *testing.T) {
	m := made([][3]int{{7, 2, 6}, {8, 6, 7}}, [][2]int{{3, 0}, {2, 4}, {9, 4}, {1, 5}, {5, 7}})
	for _, x := range []struct {
		at            int
		spans, others [][3]int
		sites, behind [][2]int
	}{
		{0, nil, [][3]int{{7, 2, 6}, {8, 6, 7}}, [][2]int{{3, 0}}, [][2]int{{2, 4}, {9, 4}, {1, 5}, {5, 7}}},
		{2, nil, [][3]int{{7, 0, 4}, {8, 4, 5}}, [][2]int{{3, 0}}, [][2]int{{2, 2}, {9, 2}, {1, 3}, {5, 5}}},
		{4, [][3]int{{7, 2, 4}}, [][3]int{{7, 0, 2}, {8, 2, 3}}, [][2]int{{3, 0}, {2, 4}, {9, 4}}, [][2]int{{1, 1}, {5, 3}}},
		{6, [][3]int{{7, 2, 6}}, [][3]int{{8, 0, 1}}, [][2]int{{3, 0}, {2, 4}, {9, 4}, {1, 5}}, [][2]int{{5, 1}}},
		{7, [][3]int{{7, 2, 6}, {8, 6, 7}}, nil, [][2]int{{3, 0}, {2, 4}, {9, 4}, {1, 5}, {5, 7}}, nil},
	} {
		a, b := marks.Part(m, x.at)
		if !same(a, made(x.spans, x.sites)) || !same(b, made(x.others, x.behind)) {
			t.Errorf("Part at %d: %v, %v", x.at, a, b)
		}
	}
}

// P4.1: Drop and Of of marks that are there, of one that isn't, and of numbers that are none.
func TestP4_1DropAndOf(t *testing.T) {
	m := made([][3]int{{7, 2, 4}, {8, 4, 6}, {7, 6, 8}}, [][2]int{{3, 2}, {7, 2}, {9, 4}, {3, 5}})
	for _, x := range []struct {
		mark       int
		left, mine [][3]int
		sites      [][2]int
		places     []int
	}{
		{7, [][3]int{{8, 4, 6}}, [][3]int{{7, 2, 4}, {7, 6, 8}}, [][2]int{{3, 2}, {9, 4}, {3, 5}}, []int{2}},
		{8, [][3]int{{7, 2, 4}, {7, 6, 8}}, [][3]int{{8, 4, 6}}, [][2]int{{3, 2}, {7, 2}, {9, 4}, {3, 5}}, nil},
		{3, [][3]int{{7, 2, 4}, {8, 4, 6}, {7, 6, 8}}, nil, [][2]int{{7, 2}, {9, 4}}, []int{2, 5}},
		{0, [][3]int{{7, 2, 4}, {8, 4, 6}, {7, 6, 8}}, nil, [][2]int{{3, 2}, {7, 2}, {9, 4}, {3, 5}}, nil},
		{-7, [][3]int{{7, 2, 4}, {8, 4, 6}, {7, 6, 8}}, nil, [][2]int{{3, 2}, {7, 2}, {9, 4}, {3, 5}}, nil},
		{math.MaxInt, [][3]int{{7, 2, 4}, {8, 4, 6}, {7, 6, 8}}, nil, [][2]int{{3, 2}, {7, 2}, {9, 4}, {3, 5}}, nil},
	} {
		if got := marks.Drop(m, x.mark); !same(got, made(x.left, x.sites)) {
			t.Errorf("Drop of %d: %v", x.mark, got)
		}
		spans, places := marks.Of(m, x.mark)
		if !slices.Equal(spans, made(x.mine, nil).Spans) || !slices.Equal(places, x.places) {
			t.Errorf("Of %d: %v, %v", x.mark, spans, places)
		}
	}
}

// P4.1: each call, of each small text and at each of its places.
func TestP4_1AllSmall(t *testing.T) {
	for n := range 4 {
		small(n, func(x text) {
			for at := 0; at <= n; at++ {
				checkPart(t, x, at)
				for mark := range 4 {
					for k := range 3 {
						checkPut(t, x, at, k, mark)
					}
					for b := at; b <= n; b++ {
						checkTake(t, x, at, b, mark)
					}
				}
			}
			for mark := -1; mark <= 3; mark++ {
				checkDrop(t, x, mark)
			}
		})
	}
}

// P4.1: each call, of greater texts, one behind the other.
func TestP4_1Drawn(t *testing.T) {
	r := rand.New(rand.NewSource(2))
	for range 500 {
		x := drawn(r)
		for range 30 {
			n := len(x.letters)
			at, mark := r.Intn(n+1), r.Intn(7)-1
			b := at + r.Intn(min(n-at, 8)+1)
			k := r.Intn(6)
			checkPart(t, x, at)
			checkDrop(t, x, mark)
			checkPut(t, x, at, k, mark)
			checkTake(t, x, at, b, mark)
			switch r.Intn(4) {
			case 0, 1:
				x = x.put(at, k, mark)
			case 2:
				x = x.take(at, b, mark)
			case 3:
				if r.Intn(3) == 0 {
					x = x.drop(mark)
				}
			}
		}
	}
}

// P4.1: the greatest numbers that a right text has.
func TestP4_1GreatNumbers(t *testing.T) {
	const n = math.MaxInt
	m := made([][3]int{{1, 0, 5}, {n, 5, n}}, [][2]int{{2, 5}, {n, n}})
	if !marks.Right(m, n) || marks.Right(m, n-1) {
		t.Error("Right")
	}
	for _, at := range []int{0, 5, 6, n - 1, n} {
		if got := marks.Put(m, at, 0, 7); !same(got, m) {
			t.Error("Put:", at, got)
		}
	}
	if got := marks.Take(m, 5, n, 2); !same(got, made([][3]int{{1, 0, 5}}, [][2]int{{2, 5}, {n, 5}})) {
		t.Error("Take:", got)
	}
	if got := marks.Put(marks.Take(m, 0, 5, 0), 0, 5, 3); !same(got, made([][3]int{{3, 0, 5}, {n, 5, n}}, [][2]int{{2, 0}, {n, n}})) {
		t.Error("Take and Put:", got)
	}
	a, b := marks.Part(m, n)
	if !same(a, m) || len(b.Spans)+len(b.Sites) > 0 {
		t.Error("Part:", a, b)
	}
	if _, b := marks.Part(m, n-1); !same(b, made([][3]int{{n, 0, 1}}, [][2]int{{n, 1}})) {
		t.Error("Part:", b)
	}
}

// P4.1: what a Put has parted, a Take of the same letters makes whole again, and the other way round.
func TestP4_1PutAndTake(t *testing.T) {
	r := rand.New(rand.NewSource(3))
	for range 2000 {
		x := drawn(r)
		m, n := x.told(), len(x.letters)
		at, k, mark := r.Intn(n+1), r.Intn(5), r.Intn(6)
		if got := marks.Take(marks.Put(m, at, k, mark), at, at+k, 0); !same(got, m) {
			t.Fatalf("%v, %d at %d under %d and away again: %v", m, k, at, mark, got)
		}
		a, b := marks.Part(m, at)
		whole := marks.Put(marks.Put(a, at, n-at, 0), at, 0, 0)
		for _, s := range b.Spans {
			whole = marks.Put(marks.Take(whole, at+s.From, at+s.To, 0), at+s.From, s.To-s.From, s.Mark)
		}
		for _, s := range b.Sites {
			whole = marks.Take(whole, at+s.At, at+s.At, s.Mark)
		}
		if !same(whole, m) {
			t.Fatalf("%v, parted at %d and laid together again: %v", m, at, whole)
		}
	}
}

// P4.2: letters are followed one by one through puts, takes, drops and parts: those put under a mark are those of its spans.
func TestP4_2LettersKeepTheirMark(t *testing.T) {
	r := rand.New(rand.NewSource(4))
	for range 300 {
		var m marks.Marks
		var letters []int
		under := map[int]int{}
		for next := 1; next < 120; {
			at := r.Intn(len(letters) + 1)
			if r.Intn(5) < 3 {
				k, mark := r.Intn(4), r.Intn(7)
				m = marks.Put(m, at, k, mark)
				for i := range k {
					letters = slices.Insert(letters, at+i, next)
					under[next] = mark
					next++
				}
			} else {
				b := at + r.Intn(min(len(letters)-at, 5)+1)
				m = marks.Take(m, at, b, r.Intn(7))
				letters = slices.Delete(letters, at, b)
			}
			checkFollowed(t, m, letters, under)
		}
		at := r.Intn(len(letters) + 1)
		a, b := marks.Part(m, at)
		checkFollowed(t, a, letters[:at], under)
		checkFollowed(t, b, letters[at:], under)
		m = marks.Drop(m, 3)
		for _, x := range letters {
			if under[x] == 3 {
				under[x] = 0
			}
		}
		checkFollowed(t, m, letters, under)
	}
}

// checkFollowed asks for each mark, whether the letters of its spans are those that were put under it.
func checkFollowed(t *testing.T, m marks.Marks, letters []int, under map[int]int) {
	t.Helper()
	if !marks.Right(m, len(letters)) {
		t.Fatalf("not right, of %d letters: %v", len(letters), m)
	}
	for mark := 1; mark <= 7; mark++ {
		var want, got []int
		for _, x := range letters {
			if under[x] == mark {
				want = append(want, x)
			}
		}
		spans, _ := marks.Of(m, mark)
		for _, s := range spans {
			got = append(got, letters[s.From:s.To]...)
		}
		if !slices.Equal(got, want) {
			t.Fatalf("letters of mark %d: %v, not %v", mark, got, want)
		}
	}
}

// P4.2: a mark of its own is gone whole, when the letters of its spans are taken, from the last span on.
func TestP4_2TakenWhole(t *testing.T) {
	m := marks.Put(marks.Put(marks.Put(marks.Marks{}, 0, 6, 7), 3, 2, 8), 1, 1, 0)
	spans, _ := marks.Of(m, 7)
	if want := made([][3]int{{7, 0, 1}, {7, 2, 4}, {7, 6, 9}}, nil).Spans; !slices.Equal(spans, want) {
		t.Fatal(spans)
	}
	slices.Reverse(spans)
	for _, s := range spans {
		m = marks.Take(m, s.From, s.To, 0)
	}
	if want := made([][3]int{{8, 1, 3}}, nil); !same(m, want) {
		t.Error(m)
	}
}

// P4.1: very many spans and sites.
func TestP4_1VeryMany(t *testing.T) {
	const n = 300000
	var m marks.Marks
	for i := range n {
		m.Spans = append(m.Spans, api.Span{Mark: 1 + i%2, From: i, To: i + 1})
		m.Sites = append(m.Sites, api.Site{Mark: 1 + i%3, At: i})
	}
	if !marks.Right(m, n) {
		t.Fatal("not right")
	}
	p := marks.Put(m, n/2, 5, 9)
	if len(p.Spans) != n+1 || len(p.Sites) != n || !same(marks.Take(p, n/2, n/2+5, 0), m) {
		t.Error("Put", len(p.Spans), len(p.Sites))
	}
	if q := marks.Take(m, 1, n, 4); !same(q, made([][3]int{{1, 0, 1}}, [][2]int{{1, 0}, {1, 1}, {2, 1}, {3, 1}, {4, 1}})) {
		t.Error("Take", len(q.Spans), len(q.Sites))
	}
	a, b := marks.Part(m, 2)
	if len(a.Spans) != 2 || len(a.Sites) != 3 || len(b.Spans) != n-2 || len(b.Sites) != n-3 {
		t.Error("Part", len(a.Spans), len(a.Sites), len(b.Spans), len(b.Sites))
	}
}

// R4: neither what is handed in nor the room behind it is changed, and no answer shares memory with it, or with another one.
func TestR4(t *testing.T) {
	r := rand.New(rand.NewSource(5))
	for range 2000 {
		x := drawn(r)
		n := len(x.letters)
		all := x.told()
		all.Spans = append(all.Spans, api.Span{Mark: -1, From: -2, To: -3}, api.Span{Mark: -4, From: -5, To: -6})
		all.Sites = append(all.Sites, api.Site{Mark: -1, At: -2}, api.Site{Mark: -3, At: -4})
		before := copied(all)
		m := marks.Marks{Spans: all.Spans[:len(all.Spans)-2], Sites: all.Sites[:len(all.Sites)-2]}
		at := r.Intn(n + 1)
		b, mark := at+r.Intn(n-at+1), r.Intn(7)
		marks.Right(m, n)
		p, q, d := marks.Put(m, at, r.Intn(4), mark), marks.Take(m, at, b, mark), marks.Drop(m, mark)
		y, z := marks.Part(m, at)
		spans, places := marks.Of(m, mark)
		answers := []marks.Marks{p, q, d, y, z, {Spans: spans}}
		for i, x := range answers {
			spoil(x, -100-i)
		}
		for i := range places[:cap(places)] {
			places[:cap(places)][i] = -99
		}
		for i, x := range answers {
			if !spoilt(x, -100-i) {
				t.Fatal("two answers share memory")
			}
		}
		if !same(all, before) {
			t.Fatalf("%v has become %v", before, all)
		}
	}
}

// spoil writes a number over all that m has, and over the room behind it.
func spoil(m marks.Marks, with int) {
	for i := range m.Spans[:cap(m.Spans)] {
		m.Spans[:cap(m.Spans)][i] = api.Span{Mark: with, From: with, To: with}
	}
	for i := range m.Sites[:cap(m.Sites)] {
		m.Sites[:cap(m.Sites)][i] = api.Site{Mark: with, At: with}
	}
}

// spoilt: has m that number all over?
func spoilt(m marks.Marks, with int) bool {
	for _, x := range m.Spans {
		if x.Mark != with {
			return false
		}
	}
	for _, x := range m.Sites {
		if x.Mark != with {
			return false
		}
	}
	return true
}

// R7: the same arguments, whatever room there is behind the lists, and nil or not, are answered the same.
func TestR7(t *testing.T) {
	r := rand.New(rand.NewSource(6))
	for range 500 {
		m := drawn(r).told()
		wide := marks.Marks{Spans: append(make([]api.Span, 0, 50), m.Spans...), Sites: append(make([]api.Site, 0, 50), m.Sites...)}
		for at := range 5 {
			a, b := marks.Part(m, at)
			c, d := marks.Part(wide, at)
			if !same(a, c) || !same(b, d) || !same(marks.Put(m, at, 2, 1), marks.Put(wide, at, 2, 1)) || !same(marks.Take(m, at, at+2, 1), marks.Take(wide, at, at+2, 1)) || !same(marks.Drop(m, at), marks.Drop(wide, at)) {
				t.Fatal(m, at)
			}
			s, p := marks.Of(m, at)
			u, v := marks.Of(wide, at)
			if !reflect.DeepEqual(append([]api.Span{}, s...), append([]api.Span{}, u...)) || !slices.Equal(p, v) {
				t.Fatal(m, at)
			}
		}
	}
}

// P0: no marks, however wrong, and no numbers make a call panic, or go on for ever; nor is what is handed in changed.
func TestP0AllArguments(t *testing.T) {
	r := rand.New(rand.NewSource(7))
	edges := []int{math.MinInt, math.MinInt + 1, -2, -1, 0, 1, 2, 5, math.MaxInt - 1, math.MaxInt}
	some := func() int { return edges[r.Intn(len(edges))] }
	for range 100 {
		var m marks.Marks
		for range r.Intn(5) {
			m.Spans = append(m.Spans, api.Span{Mark: some(), From: some(), To: some()})
		}
		for range r.Intn(5) {
			m.Sites = append(m.Sites, api.Site{Mark: some(), At: some()})
		}
		before := copied(m)
		for _, a := range edges {
			_, right := laid(m, min(max(a, 0), 9))
			if a >= 0 && a <= 9 && marks.Right(m, a) != right {
				t.Fatalf("Right(%v, %d): %v", m, a, !right)
			}
			marks.Right(m, a)
			marks.Part(m, a)
			marks.Drop(m, a)
			marks.Of(m, a)
			for _, b := range edges {
				for _, mark := range edges {
					marks.Put(m, a, b, mark)
					marks.Take(m, a, b, mark)
				}
			}
		}
		if !same(m, before) {
			t.Fatalf("%v has become %v", before, m)
		}
	}
}
