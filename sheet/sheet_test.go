package sheet_test

import (
	"math"
	"math/rand"
	"reflect"
	"slices"
	"testing"

	"chancel/api"
	"chancel/rope"
	"chancel/segment"
	"chancel/sheet"
)

// sample: three segments, the Ids in no order, with marks 7 and 8 in some of them.
func sample() []api.Seg {
	return []api.Seg{
		{Id: 4, Label: 2, Text: "aä€d", Spans: []api.Span{{Mark: 7, From: 1, To: 3}, {Mark: 8, From: 3, To: 4}}, Sites: []api.Site{{Mark: 5, At: 0}, {Mark: 5, At: 4}}},
		{Id: 9, Label: 0, Text: "", Sites: []api.Site{{Mark: 7, At: 0}}},
		{Id: 1, Label: 1, Text: "xyz", Spans: []api.Span{{Mark: 8, From: 0, To: 1}, {Mark: 8, From: 2, To: 3}}},
	}
}

// fresh: empty segments of these Ids, as plain values.
func fresh(ids ...int) []api.Seg {
	var l []api.Seg
	for _, id := range ids {
		l = append(l, api.Seg{Id: id, Label: 3})
	}
	return l
}

// ids: the Ids of s, in order.
func ids(s sheet.Sheet) []int {
	var l []int
	for _, x := range s.Segs() {
		l = append(l, x.Id())
	}
	return l
}

// P6.1: the examples of the chapter.
func TestP6_1Examples(t *testing.T) {
	s := must(t, false, fresh(1, 2))
	x, ok := s.After(1, segment.New(5, 0), segment.New(6, 0))
	if !ok || !slices.Equal(ids(x), []int{1, 5, 6, 2}) {
		t.Error(ids(x), ok)
	}
	if f := x.Fork(7, false); !slices.Equal(ids(f), []int{7, 8, 9, 10}) {
		t.Error(ids(f))
	}
	is(t, s, model{false, fresh(1, 2)})
}

// P6.1: the zero value has no segments and isn't frozen.
func TestP6_1Zero(t *testing.T) {
	var zero sheet.Sheet
	is(t, zero, model{})
	finds(t, zero, model{}, 0)
	if len(zero.With(0)) > 0 || len(zero.With(1)) > 0 {
		t.Error("With")
	}
	is(t, zero.Set(segment.New(0, 0)), model{})
	for _, l := range [][]segment.Segment{nil, {segment.New(1, 0)}, {segment.New(0, 0)}} {
		if x, ok := zero.After(0, l...); ok || !reflect.DeepEqual(x, sheet.Sheet{}) {
			t.Error("After", len(l), x.Plain(), ok)
		}
	}
	is(t, zero.Fork(3, true), model{true, nil})
	is(t, zero.Fork(3, false), model{})
	is(t, zero, model{})
}

// P6.1: what is right is loaded as it is, frozen or not, and told as it was.
func TestP6_1Load(t *testing.T) {
	for _, l := range [][]api.Seg{
		nil, {}, fresh(0), sample(), fresh(3, 2, 1), fresh(math.MinInt, math.MaxInt, -1, 0),
		{{Id: 1, Label: math.MinInt, Text: "a"}, {Id: 2, Label: math.MinInt, Text: "a"}}, {{Id: -1, Label: math.MaxInt}},
	} {
		for _, frozen := range []bool{false, true} {
			is(t, must(t, frozen, l), model{frozen, l})
		}
	}
}

// P6.1, R2: where one can't be loaded, or two have one Id, wherever they stand, the zero value is answered, and false.
func TestP6_1LoadOfWrong(t *testing.T) {
	among := func(p api.Seg) [][]api.Seg {
		l := sample()
		return [][]api.Seg{{p}, slices.Insert(slices.Clone(l), 0, p), slices.Insert(slices.Clone(l), 1, p), append(slices.Clone(l), p)}
	}
	wrong := slices.Concat(
		among(api.Seg{Id: 20, Text: "\xff"}), among(api.Seg{Id: 20, Text: "€"[:2]}),
		among(api.Seg{Id: 20, Text: "ä", Spans: []api.Span{{Mark: 1, From: 0, To: 2}}}), among(api.Seg{Id: 20, Text: "ä", Spans: []api.Span{{Mark: 0, From: 0, To: 1}}}),
		among(api.Seg{Id: 20, Sites: []api.Site{{Mark: 1, At: 1}}}), among(api.Seg{Id: 20, Sites: []api.Site{{Mark: 1, At: -1}}}),
		// The first one of each of these is right, as it stands alone.
		among(api.Seg{Id: 4})[1:], among(api.Seg{Id: 9})[1:], among(api.Seg{Id: 1})[1:], among(sample()[1])[1:],
		[][]api.Seg{fresh(1, 1), fresh(0, 0), fresh(-1, -1), fresh(1, 2, 3, 1), fresh(3, 3, 3), fresh(math.MaxInt, 0, math.MaxInt), fresh(math.MinInt, math.MinInt)},
		[][]api.Seg{{{Id: 1, Text: "\xff"}, {Id: 1}}},
	)
	for _, l := range wrong {
		for _, frozen := range []bool{false, true} {
			if s, ok := sheet.Load(frozen, l); ok || !reflect.DeepEqual(s, sheet.Sheet{}) {
				t.Errorf("Load(%v, %v): %v, %v, %v", frozen, l, s.Frozen(), s.Plain(), ok)
			}
		}
	}
}

// P6.1, R2: Find of each one, and of Ids that aren't there.
func TestP6_1Find(t *testing.T) {
	for _, l := range [][]api.Seg{sample(), fresh(0), fresh(edges()...)} {
		s := must(t, true, l)
		for _, id := range append(edges(), 3, 4, 9, 10) {
			finds(t, s, model{true, l}, id)
		}
	}
}

// P6.1: Set at each place, and of an Id that isn't there; the sheet stays frozen, or not.
func TestP6_1Set(t *testing.T) {
	for _, frozen := range []bool{false, true} {
		m := model{frozen, sample()}
		s := must(t, frozen, m.segs)
		for _, id := range []int{4, 9, 1} {
			p := api.Seg{Id: id, Label: 7, Text: "new", Spans: []api.Span{{Mark: 3, From: 0, To: 2}}, Sites: []api.Site{{Mark: 9, At: 3}}}
			is(t, s.Set(seg(t, p)), m.set(p))
		}
		for _, id := range edges() {
			if _, found := m.find(id); !found {
				is(t, s.Set(segment.New(id, 2)), m)
			}
		}
		is(t, s.Set(segment.New(4, 0)).Set(segment.New(1, 0)).Set(segment.New(4, 5)), m.set(api.Seg{Id: 4, Label: 5}).set(api.Seg{Id: 1}))
		is(t, s, m)
	}
}

// P6.1: After of none, of one and of more, behind each; also of a list, and where nothing at all is handed in.
func TestP6_1After(t *testing.T) {
	for _, frozen := range []bool{false, true} {
		m := model{frozen, sample()}
		s := must(t, frozen, m.segs)
		for _, id := range []int{4, 9, 1} {
			for _, more := range [][]api.Seg{nil, fresh(2), fresh(3, 2), fresh(0, math.MinInt, math.MaxInt, -4), {{Id: 8, Label: 4, Text: "€", Spans: []api.Span{{Mark: 7, From: 0, To: 1}}}}} {
				want, _ := m.after(id, more)
				x, ok := s.After(id, segs(t, more)...)
				if !ok {
					t.Fatal("After", id, more)
				}
				is(t, x, want)
			}
			x, ok := s.After(id)
			if !ok {
				t.Fatal("After of nothing", id)
			}
			is(t, x, m)
		}
		is(t, s, m)
	}
}

// P6.1: After of an Id that isn't there, and of segments of which then two would have one Id; it is as it is.
func TestP6_1AfterRefused(t *testing.T) {
	for _, frozen := range []bool{false, true} {
		m := model{frozen, sample()}
		s := must(t, frozen, m.segs)
		for _, x := range []struct {
			id   int
			more []api.Seg
		}{
			{2, nil}, {0, nil}, {-4, nil}, {math.MinInt, nil}, {math.MaxInt, nil}, {2, fresh(2)}, {0, fresh(5, 6)}, {2, fresh(4)},
			{4, fresh(4)}, {4, fresh(9)}, {4, fresh(1)}, {1, fresh(4)}, {9, fresh(9)}, {4, fresh(5, 1)}, {9, fresh(4, 5)}, {1, fresh(5, 9, 6)},
			{4, fresh(5, 5)}, {9, fresh(5, 6, 5)}, {1, fresh(-1, -1)}, {4, fresh(math.MaxInt, math.MaxInt)}, {4, sample()[:1]}, {4, sample()},
		} {
			got, ok := s.After(x.id, segs(t, x.more)...)
			if ok {
				t.Errorf("After(%d, %v): %v", x.id, x.more, ids(got))
			}
			is(t, got, m)
		}
		is(t, s, m)
	}
}

// P6.1: Fork: new Ids from the first on, the same labels and letters, no marks; frozen as it is told, whatever it was.
func TestP6_1Fork(t *testing.T) {
	for _, was := range []bool{false, true} {
		for _, frozen := range []bool{false, true} {
			for _, l := range [][]api.Seg{nil, fresh(5), sample(), fresh(0, 1, 2, 3)} {
				m := model{was, l}
				s := must(t, was, l)
				for _, first := range []int{0, 1, 2, 9, 1<<40 - 1, 1 << 40} {
					is(t, s.Fork(first, frozen), m.fork(first, frozen))
				}
				is(t, s.Fork(3, was).Fork(0, frozen), m.fork(0, frozen))
				is(t, s, m)
			}
		}
	}
	for _, mark := range []int{5, 7, 8} {
		if l := must(t, false, sample()).Fork(0, false).With(mark); len(l) > 0 {
			t.Error(mark, told(l))
		}
	}
}

// P6.1: With of marks of spans, of sites, of both, and of numbers that are no marks.
func TestP6_1With(t *testing.T) {
	s := must(t, true, sample())
	for _, x := range []struct {
		mark int
		ids  []int
	}{{7, []int{4, 9}}, {8, []int{4, 1}}, {5, []int{4}}, {1, nil}, {4, nil}, {9, nil}, {0, nil}, {-7, nil}, {math.MinInt, nil}, {math.MaxInt, nil}} {
		var want []api.Seg
		for _, id := range x.ids {
			p, _ := model{segs: sample()}.find(id)
			want = append(want, p)
		}
		if got := told(s.With(x.mark)); !alike(got, want) {
			t.Errorf("With(%d): %v, not %v", x.mark, got, want)
		}
	}
}

// lists: each list of up to most numbers 0 to n - 1, alike ones too.
func lists(n, most int, see func([]int)) {
	see(nil)
	if most == 0 {
		return
	}
	for i := range n {
		lists(n, most-1, func(l []int) {
			see(append([]int{i}, l...))
		})
	}
}

// P6.1: each sheet of up to three segments of four Ids, and each After and Set of it.
func TestP6_1AllSmall(t *testing.T) {
	lists(4, 3, func(of []int) {
		m := model{len(of)%2 == 1, fresh(of...)}
		s, ok := sheet.Load(m.frozen, m.segs)
		if ok == twice(m.segs) {
			t.Fatal(of, ok)
		}
		if !ok {
			return
		}
		for id := -1; id < 5; id++ {
			finds(t, s, m, id)
			p := api.Seg{Id: id, Label: 9, Text: "s"}
			is(t, s.Set(seg(t, p)), m.set(p))
			is(t, s.Fork(id+1, id%2 == 0), m.fork(id+1, id%2 == 0))
			lists(6, 2, func(more []int) {
				l := fresh(more...)
				want, can := m.after(id, l)
				got, ok := s.After(id, segs(t, l)...)
				if ok != can {
					t.Fatalf("After(%d, %v) of %v: %v", id, more, of, ok)
				}
				is(t, got, want)
			})
		}
		is(t, s, m)
	})
}

// drawn: a segment with up to four letters, up to one span and one site of marks 1 to 4.
func drawn(r *rand.Rand, id int) api.Seg {
	p := api.Seg{Id: id, Label: r.Intn(4)}
	n := r.Intn(5)
	for range n {
		p.Text += string([]rune{'a', 0, 'ä', '€', '\U0001F600'}[r.Intn(5)])
	}
	if from := r.Intn(n + 1); from < n {
		p.Spans = []api.Span{{Mark: 1 + r.Intn(4), From: from, To: n}}
	}
	if r.Intn(2) == 0 {
		p.Sites = []api.Site{{Mark: 1 + r.Intn(4), At: r.Intn(n + 1)}}
	}
	return p
}

// step: one call of those that answer a sheet, and what must have come of it.
func step(t *testing.T, r *rand.Rand, s sheet.Sheet, m model) (sheet.Sheet, model) {
	t.Helper()
	id := r.Intn(12)
	switch r.Intn(8) {
	case 0:
		first, frozen := r.Intn(6), r.Intn(2) == 0
		return s.Fork(first, frozen), m.fork(first, frozen)
	case 1, 2, 3:
		p := drawn(r, id)
		return s.Set(seg(t, p)), m.set(p)
	}
	var more []api.Seg
	for range r.Intn(3) {
		more = append(more, drawn(r, r.Intn(12)))
	}
	want, can := m.after(id, more)
	got, ok := s.After(id, segs(t, more)...)
	if ok != can {
		t.Fatalf("After(%d, %v) of %v: %v", id, more, m.segs, ok)
	}
	return got, want
}

// P6.1: many calls, one on what came of another; no sheet that was there changes.
func TestP6_1Drawn(t *testing.T) {
	r := rand.New(rand.NewSource(1))
	for range 60 {
		m := model{r.Intn(2) == 0, []api.Seg{drawn(r, 0), drawn(r, 5)}}
		s := must(t, m.frozen, m.segs)
		were, are := []sheet.Sheet{s}, []model{m}
		for range 60 {
			// Not always of the last one: of what two sheets share neither may write into.
			i := len(were) - 1 - r.Intn(min(3, len(were)))
			s, m = step(t, r, were[i], are[i])
			is(t, s, m)
			for mark := range 6 {
				if got := told(s.With(mark)); !alike(got, m.with(mark)) {
					t.Fatalf("With(%d) of %v: %v", mark, m.segs, got)
				}
			}
			were, are = append(were, s), append(are, m)
		}
		for i := range were {
			is(t, were[i], are[i])
		}
	}
}

// P6.1: what comes of one sheet in two ways doesn't touch the other, nor the sheet.
func TestP6_1TwoWays(t *testing.T) {
	for n := 1; n < 10; n++ {
		var l []api.Seg
		for id := range n {
			l = append(l, api.Seg{Id: id, Text: string(rune('a' + id))})
		}
		m := model{false, l}
		s := must(t, false, l)
		for id := range n {
			a, _ := s.After(id, segment.New(50, 0))
			b, _ := s.After(id, segment.New(60, 0), segment.New(61, 0))
			c, d := s.Set(segment.New(id, 1)), s.Set(segment.New(id, 2))
			wantA, _ := m.after(id, []api.Seg{{Id: 50}})
			wantB, _ := m.after(id, []api.Seg{{Id: 60}, {Id: 61}})
			is(t, a, wantA)
			is(t, b, wantB)
			is(t, c, m.set(api.Seg{Id: id, Label: 1}))
			is(t, d, m.set(api.Seg{Id: id, Label: 2}))
			is(t, s, m)
		}
	}
}

// P6.1: a segment that was found and changed is set: the sheet tells it, the one ahead doesn't.
func TestP6_1FoundChangedSet(t *testing.T) {
	m := model{false, sample()}
	s := must(t, false, m.segs)
	word, _ := rope.New("ö!")
	x, _ := s.Find(1)
	x, ok := x.Insert(1, word, 12, api.MaxQuota)
	if !ok {
		t.Fatal("no room")
	}
	put := s.Set(x)
	is(t, put, m.set(api.Seg{Id: 1, Label: 1, Text: "xö!yz", Spans: []api.Span{{Mark: 8, From: 0, To: 1}, {Mark: 12, From: 1, To: 3}, {Mark: 8, From: 4, To: 5}}}))
	if l := put.With(12); len(l) != 1 || l[0].Id() != 1 {
		t.Error(told(l))
	}
	is(t, put.Set(x.Unput(12)), m)
	is(t, s, m)
}

// P6.1, P0: a long sheet, with one Id of it anew at its far end.
func TestP6_1VeryMany(t *testing.T) {
	const n = 20000
	var all []int
	for id := range n {
		all = append(all, n-id)
	}
	l := fresh(all...)
	s := must(t, false, l)
	if _, ok := sheet.Load(false, append(slices.Clone(l), l[0])); ok {
		t.Error("Load")
	}
	if x, ok := s.After(1, segment.New(n, 0)); ok || len(x.Segs()) != n {
		t.Error("After", ok)
	}
	x, ok := s.After(1, s.Fork(n+1, false).Segs()...)
	if got := ids(x); !ok || len(got) != 2*n || got[n-1] != 1 || got[n] != n+1 || got[2*n-1] != 2*n {
		t.Error("After", ok, len(got))
	}
}

// P0, R6: no number, and no segment, makes a call panic.
func TestP0AllArguments(t *testing.T) {
	frozenOne := must(t, true, fresh(math.MaxInt, math.MinInt, 0))
	for _, s := range []sheet.Sheet{{}, frozenOne, must(t, false, sample()), must(t, false, fresh(edges()...))} {
		m := model{s.Frozen(), s.Plain()}
		for _, a := range edges() {
			if f := s.Fork(a, true); !f.Frozen() || len(f.Segs()) != len(m.segs) {
				t.Fatal("Fork", a, f.Plain())
			}
			if got := told(s.With(a)); !alike(got, m.with(a)) {
				t.Fatal("With", a, got)
			}
			finds(t, s, m, a)
			for _, b := range edges() {
				is(t, s.Set(segment.New(a, b)), m.set(api.Seg{Id: a, Label: b}))
				for _, more := range [][]segment.Segment{nil, {}, {{}}, {segment.New(b, a)}, {segment.New(b, a), segment.New(a, b), {}}} {
					want, can := m.after(a, told(more))
					got, ok := s.After(a, more...)
					if ok != can {
						t.Fatal("After", a, told(more), ok)
					}
					is(t, got, want)
				}
			}
		}
		is(t, s, m)
	}
}

// P0: plain values of all kinds, many of them wrong, are loaded or refused, and stay as they are.
func TestP0Load(t *testing.T) {
	r := rand.New(rand.NewSource(2))
	loaded := 0
	for i := range 5000 {
		var l []api.Seg
		wrong := false
		for range r.Intn(4) {
			p := drawn(r, r.Intn(8))
			if r.Intn(6) == 0 {
				p.Text += "\xf0"
				wrong = true
			}
			l = append(l, p)
		}
		before := copied(l)
		s, ok := sheet.Load(i%2 == 0, l)
		if ok == (wrong || twice(l)) {
			t.Fatal(l, ok)
		}
		if ok {
			loaded++
			is(t, s, model{i%2 == 0, before})
		}
		if !alike(l, before) {
			t.Fatal(l, before)
		}
	}
	if loaded == 0 {
		t.Error("none was right")
	}
}

// spoil writes over all of l, its lists, and the room behind them.
func spoil(l []api.Seg) {
	for i := range l {
		for j := range l[i].Spans[:cap(l[i].Spans)] {
			l[i].Spans[:cap(l[i].Spans)][j] = api.Span{Mark: -9, From: -9, To: -9}
		}
		for j := range l[i].Sites[:cap(l[i].Sites)] {
			l[i].Sites[:cap(l[i].Sites)][j] = api.Site{Mark: -9, At: -9}
		}
	}
	for i := range l[:cap(l)] {
		l[:cap(l)][i] = api.Seg{Id: -9, Text: "spoilt"}
	}
}

// spoilSegs writes over all of l, and the room behind it.
func spoilSegs(l []segment.Segment) {
	for i := range l[:cap(l)] {
		l[:cap(l)][i] = segment.New(-9, -9)
	}
}

// R4: no list that was handed in or answered is kept.
func TestR4ListsAreNotKept(t *testing.T) {
	m := model{true, sample()}
	l := sample()
	s := must(t, true, l)
	spoil(l)
	is(t, s, m)
	more := segs(t, fresh(20, 21))
	after, _ := s.After(9, more...)
	want, _ := m.after(9, fresh(20, 21))
	spoilSegs(more)
	is(t, after, want)
	none, _ := s.After(9)
	refused, _ := s.After(9, segment.New(9, 0))
	for _, x := range []sheet.Sheet{s, none, refused, s.Set(segment.New(-5, 0))} {
		spoil(x.Plain())
		spoilSegs(x.Segs())
		spoilSegs(x.With(7))
		is(t, x, m)
	}
	// With answers all of them here: that list is no other's either.
	all := must(t, false, sample()[:2])
	spoilSegs(all.With(7))
	is(t, all, model{false, sample()[:2]})
	is(t, s, m)
}

// R4: lists that are handed in, and the room behind them, are not written to.
func TestR4RoomBehind(t *testing.T) {
	l := append(make([]api.Seg, 0, 9), append(sample(), fresh(77)...)...)
	s := must(t, false, l[:3])
	more := append(make([]segment.Segment, 0, 9), segs(t, fresh(30, 31, 32))...)
	for _, id := range []int{4, 9, 1} {
		x, _ := s.After(id, more[:2]...)
		x.Set(segment.New(30, 5)).Fork(8, true).With(1)
		x.After(31, segment.New(40, 0))
		if _, ok := s.After(id, segment.New(id, 0)); ok {
			t.Error("two of one Id")
		}
	}
	if !alike(l, append(sample(), fresh(77)...)) {
		t.Error(l)
	}
	if got := told(more); !alike(got, fresh(30, 31, 32)) {
		t.Error(got)
	}
	if rest := more[3:cap(more)]; !alike(told(rest), make([]api.Seg, len(rest))) {
		t.Error(told(rest))
	}
}

// R7: two sheets that came about alike, whatever room is behind their lists, are answered the same.
func TestR7(t *testing.T) {
	a := must(t, false, sample())
	b := must(t, false, append(make([]api.Seg, 0, 50), sample()...))
	for id := range 12 {
		x, okX := a.After(id, segment.New(5, 0), segment.New(id/2, 0))
		y, okY := b.After(id, segment.New(5, 0), segment.New(id/2, 0))
		if okX != okY {
			t.Fatal(id, okX, okY)
		}
		is(t, x, model{y.Frozen(), y.Plain()})
		x, y = x.Set(segment.New(id, 3)), y.Set(segment.New(id, 3))
		is(t, x, model{y.Frozen(), y.Plain()})
		is(t, x.Fork(id, true), model{true, y.Fork(id, true).Plain()})
		if !alike(told(x.With(id)), told(y.With(id))) {
			t.Fatal(id)
		}
	}
}
