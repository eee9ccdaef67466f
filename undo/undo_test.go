package undo_test

import (
	"errors"
	"math"
	"math/rand"
	"runtime"
	"slices"
	"strings"
	"testing"

	"chancel/api"
	"chancel/rope"
	"chancel/undo"
)

// long: a text of many parts, as a rope.
var long = strings.Repeat("aä€\U0001F600", 200)

// sample: five things of three documents, two of them of one mark.
func sample() []api.Undo {
	return []api.Undo{
		{Kind: 1, Doc: 1, Mark: 10, Label: 3},
		{Kind: 2, Doc: 2, Mark: 11, Label: 4, Text: "aä€"},
		{Kind: 2, Doc: 1, Mark: 12, Label: 5},
		{Kind: 1, Doc: 0, Mark: 10, Label: 6},
		{Kind: 1, Doc: 2, Mark: 13, Label: 0},
	}
}

// Types that are made like those of the things, but are others.
type (
	likePut  undo.Put
	likeTook undo.Took
	around   struct{ undo.Put }
)

// noThings: values of many kinds, none of which is a Put or a Took.
func noThings(t *testing.T) []any {
	t.Helper()
	put := undo.Put{Doc: 1, Mark: 2, Label: 3}
	took := undo.Took{Doc: 1, Mark: 2, Label: 3, Text: ropeOf(t, "x")}
	return []any{
		nil, 7, 0, "", "Put", true, 1.5, 'x', []int{1, 2, 3}, map[int]int{1: 2}, errors.New("x"), func() {}, make(chan int),
		&put, &took, (*undo.Put)(nil), (*undo.Took)(nil), []undo.Put{put}, [1]undo.Took{took}, []any{put}, &[]any{put}[0],
		likePut(put), likeTook(took), around{put}, struct{ Doc, Mark, Label int }{1, 2, 3}, struct{}{},
		api.Undo{}, api.Undo{Kind: 1, Doc: 1, Mark: 2, Label: 3}, undo.Stack{}, ropeOf(t, "x"), (*rope.Rope)(nil), rope.Rope{},
	}
}

// P7.1: the example of the chapter.
func TestP7_1Example(t *testing.T) {
	var s undo.Stack
	var out any
	for i := 1; i <= 3; i++ {
		if out != nil {
			t.Error(i, out)
		}
		s, out = s.Push(undo.Put{Mark: i}, 2)
	}
	if out != (undo.Put{Mark: 1}) {
		t.Error(out)
	}
	is(t, s, model{{Kind: 1, Mark: 2}, {Kind: 1, Mark: 3}})
}

// P7.1: the zero value is empty.
func TestP7_1Zero(t *testing.T) {
	var none undo.Stack
	is(t, none, nil)
	for _, n := range edges() {
		lasts(t, none, nil, n)
		is(t, none.Drop(n), nil)
		pushes(t, none, nil, sample()[1], n)
	}
	is(t, none, nil)
}

// P7.1: what is right is loaded as it is, and told as it was.
func TestP7_1Load(t *testing.T) {
	for _, l := range [][]api.Undo{
		nil, {}, sample(), sample()[:1], sample()[1:2],
		{{Kind: 1}}, {{Kind: 2}}, {{Kind: 2, Text: "\x00"}}, {{Kind: 2, Text: long}}, {{Kind: 2, Text: "\uFFFD"}}, {{Kind: 2, Text: "\U0010FFFF\uD7FF\uE000"}},
		{{Kind: 1, Doc: math.MinInt, Mark: math.MaxInt, Label: -1}, {Kind: 2, Doc: math.MaxInt, Mark: math.MinInt, Label: math.MinInt, Text: "a"}},
		{{Kind: 1, Doc: 1, Mark: 1, Label: 1}, {Kind: 1, Doc: 1, Mark: 1, Label: 1}, {Kind: 2, Doc: 1, Mark: 1, Label: 1}},
	} {
		is(t, must(t, l), l)
	}
}

// P7.1: what was loaded is told as things, each with its text.
func TestP7_1LoadedThings(t *testing.T) {
	for _, u := range append(sample(), api.Undo{Kind: 2, Doc: 9, Mark: 4, Label: 2, Text: long}) {
		got, ok := must(t, []api.Undo{u}).Last(u.Doc)
		if !ok || told(t, got) != u {
			t.Error(u, got, ok)
		}
	}
}

// P7.1, R2: where one is wrong, wherever it stands, the zero value is answered, and false.
func TestP7_1LoadOfWrong(t *testing.T) {
	wrong := []api.Undo{
		{}, {Kind: 3}, {Kind: -1}, {Kind: math.MaxInt}, {Kind: math.MinInt}, {Kind: 0, Doc: 1, Mark: 1, Label: 1, Text: "a"}, {Kind: 3, Text: "a"},
		{Kind: 1, Text: "x"}, {Kind: 1, Doc: 1, Mark: 1, Text: "\x00"}, {Kind: 1, Text: "\xff"}, {Kind: 1, Text: long},
		{Kind: 2, Text: "\xff"}, {Kind: 2, Text: "a\x80"}, {Kind: 2, Text: "€"[:2]}, {Kind: 2, Text: "€"[1:]}, {Kind: 2, Text: "\xc0\x80"}, {Kind: 2, Text: "\xed\xa0\x80"}, {Kind: 2, Text: "\xf4\x90\x80\x80"}, {Kind: 2, Text: long + "\xff"},
	}
	for _, u := range wrong {
		for at := range len(sample()) + 1 {
			l := slices.Insert(sample(), at, u)
			if s, ok := undo.Load(l); ok || !zero(s) {
				t.Errorf("Load(%v): %v, %v", l, s.Plain(), ok)
			}
		}
		if s, ok := undo.Load([]api.Undo{u}); ok || !zero(s) {
			t.Errorf("Load of %v alone: %v, %v", u, s.Plain(), ok)
		}
	}
}

// P7.1: Push of a Put and of a Took on stacks of each height, at each depth: one falls out at most, also where more are there than depth.
func TestP7_1Push(t *testing.T) {
	for n := range len(sample()) + 1 {
		m := model(sample()[:n])
		s := must(t, m)
		for _, depth := range append(edges(), 4, 6, 7) {
			for _, u := range []api.Undo{{Kind: 1, Doc: 1, Mark: 20, Label: 1}, {Kind: 2, Doc: 1, Mark: 21, Label: 2, Text: "ö"}, {Kind: 2}, {Kind: 1, Doc: 1, Mark: 10, Label: 3}} {
				pushes(t, s, m, u, depth)
				is(t, s, m)
			}
		}
	}
}

// P7.1: one upon the other, at each depth: the stack has the last ones.
func TestP7_1PushMany(t *testing.T) {
	for depth := -1; depth < 7; depth++ {
		var s undo.Stack
		var m model
		for i := range 12 {
			u := api.Undo{Kind: 1, Doc: i % 3, Mark: i, Label: -i}
			if i%2 == 0 {
				u.Kind, u.Text = 2, strings.Repeat("€", i)
			}
			s, m = pushes(t, s, m, u, depth)
			if want := min(i+1, max(depth, 1)); len(s.Plain()) != want {
				t.Fatal(depth, i, s.Plain())
			}
		}
	}
}

// P7.1: what falls out is just what was put on, its rope too.
func TestP7_1PushOut(t *testing.T) {
	text := ropeOf(t, long)
	for _, x := range []any{undo.Put{Doc: 1, Mark: 2, Label: 3}, undo.Put{}, undo.Took{Doc: 1, Mark: 2, Label: 3, Text: text}, undo.Took{}} {
		s, out := undo.Stack{}.Push(x, 1)
		if out != nil {
			t.Error(x, out)
		}
		if got, ok := s.Last(told(t, x).Doc); !ok || got != x {
			t.Error(x, got, ok)
		}
		if _, out := s.Push(undo.Put{Mark: 9}, 1); out != x {
			t.Error(x, out)
		}
	}
}

// P7.1, R2: what is no thing is not put on, whatever the depth: nothing falls out.
func TestP7_1PushOfNoThing(t *testing.T) {
	for _, x := range noThings(t) {
		for n := range len(sample()) + 1 {
			m := model(sample()[:n])
			s := must(t, m)
			for _, depth := range edges() {
				got, out := s.Push(x, depth)
				if out != nil {
					t.Errorf("Push(%v, %d): out is %v", x, depth, out)
				}
				is(t, got, m)
			}
		}
	}
}

// P7.1: Last: the uppermost one of each document, and of documents that have none.
func TestP7_1Last(t *testing.T) {
	s := must(t, sample())
	for _, x := range []struct {
		doc, at int
	}{{0, 3}, {1, 2}, {2, 4}, {3, -1}, {10, -1}, {13, -1}, {-1, -1}, {math.MinInt, -1}, {math.MaxInt, -1}} {
		got, ok := s.Last(x.doc)
		if x.at < 0 {
			if got != nil || ok {
				t.Errorf("Last(%d): %v, %v", x.doc, got, ok)
			}
		} else if !ok || told(t, got) != sample()[x.at] {
			t.Errorf("Last(%d): %v, %v", x.doc, got, ok)
		}
	}
	far := model{{Kind: 1, Doc: math.MinInt, Mark: 1}, {Kind: 2, Doc: math.MaxInt, Mark: 2, Text: "x"}}
	for _, doc := range edges() {
		lasts(t, must(t, far), far, doc)
	}
}

// P7.1: Drop: all things of the mark, of both kinds and wherever they lie, and none beside.
func TestP7_1Drop(t *testing.T) {
	m := model{
		{Kind: 1, Doc: 1, Mark: 5}, {Kind: 2, Doc: 1, Mark: 5, Text: "a"}, {Kind: 1, Doc: 5, Mark: 1, Label: 5}, {Kind: 2, Doc: 2, Mark: 5},
		{Kind: 1, Doc: 0, Mark: 0}, {Kind: 1, Doc: 2, Mark: -5}, {Kind: 2, Doc: 3, Mark: math.MaxInt, Text: "b"}, {Kind: 1, Doc: 3, Mark: math.MinInt}, {Kind: 1, Doc: 3, Mark: 5},
	}
	s := must(t, m)
	for _, mark := range append(edges(), -5, 4, 6) {
		is(t, s.Drop(mark), m.drop(mark))
		for _, other := range edges() {
			is(t, s.Drop(mark).Drop(other), m.drop(mark).drop(other))
		}
	}
	if n := len(s.Drop(5).Plain()); n != 5 {
		t.Error(n)
	}
	alike := model{{Kind: 1, Mark: 3}, {Kind: 2, Mark: 3, Text: "a"}, {Kind: 1, Mark: 3}}
	if all := must(t, alike).Drop(3); len(all.Plain()) != 0 {
		t.Error(all.Plain())
	}
	is(t, s, m)
}

// P7.1: Mark and Label of things, of both kinds; the numbers may be any.
func TestP7_1MarkAndLabel(t *testing.T) {
	for _, a := range edges() {
		for _, b := range edges() {
			for _, x := range []any{undo.Put{Doc: 77, Mark: a, Label: b}, undo.Took{Doc: 77, Mark: a, Label: b}, undo.Took{Mark: a, Label: b, Text: ropeOf(t, "x")}} {
				if m, ok := undo.Mark(x); m != a || !ok {
					t.Errorf("Mark(%v): %d, %v", x, m, ok)
				}
				if l := undo.Label(x); l != b {
					t.Errorf("Label(%v): %d", x, l)
				}
			}
		}
	}
}

// P7.1, R2: Mark and Label of what is no thing.
func TestP7_1MarkAndLabelOfNoThing(t *testing.T) {
	for _, x := range noThings(t) {
		if m, ok := undo.Mark(x); m != 0 || ok {
			t.Errorf("Mark(%v): %d, %v", x, m, ok)
		}
		if l := undo.Label(x); l != 0 {
			t.Errorf("Label(%v): %d", x, l)
		}
	}
}

// P7.1: Text of a Took.
func TestP7_1Text(t *testing.T) {
	for _, s := range []string{"", "x", "aä€\U0001F600", long} {
		r := ropeOf(t, s)
		if got := undo.Text(undo.Took{Doc: 1, Mark: 2, Label: 3, Text: r}); got != r || got.Text() != s {
			t.Errorf("%q: %q", s, got.Text())
		}
		last, _ := must(t, []api.Undo{{Kind: 2, Text: s}}).Last(0)
		if got := undo.Text(last); got.Text() != s {
			t.Errorf("%q, loaded: %q", s, got.Text())
		}
	}
}

// panicOf: what Text of x panics with; nil, if it doesn't.
func panicOf(x any) (p any) {
	defer func() {
		p = recover()
	}()
	undo.Text(x)
	return nil
}

// P7.1: Text panics at anything but a Took, as an assertion without a second value does.
func TestP7_1TextPanics(t *testing.T) {
	for _, x := range append(noThings(t), undo.Put{}, undo.Put{Doc: 1, Mark: 2, Label: 3}) {
		p := panicOf(x)
		if _, ok := p.(*runtime.TypeAssertionError); !ok {
			t.Errorf("Text(%v): %v", x, p)
		}
	}
	if p := panicOf(undo.Took{}); p != nil {
		t.Error(p)
	}
}

// drawn: a thing of few documents and marks.
func drawn(r *rand.Rand) api.Undo {
	u := api.Undo{Kind: 1 + r.Intn(2), Doc: r.Intn(3), Mark: r.Intn(6), Label: r.Intn(4)}
	if u.Kind == 2 {
		u.Text = strings.Repeat(string([]rune{'a', 0, 'ä', '€', '\U0001F600'}[r.Intn(5)]), r.Intn(4))
	}
	return u
}

// P7.1: many calls, one on what came of another; no stack that was there changes.
func TestP7_1Drawn(t *testing.T) {
	r := rand.New(rand.NewSource(1))
	for range 200 {
		var s undo.Stack
		var m model
		were, are := []undo.Stack{s}, []model{m}
		for range 60 {
			// Not always of the last one: of what two stacks share neither may write into.
			i := len(were) - 1 - r.Intn(min(3, len(were)))
			s, m = were[i], are[i]
			if r.Intn(4) == 0 {
				mark := r.Intn(6)
				s, m = s.Drop(mark), m.drop(mark)
				is(t, s, m)
			} else {
				s, m = pushes(t, s, m, drawn(r), r.Intn(9)-1)
			}
			for doc := -1; doc < 4; doc++ {
				lasts(t, s, m, doc)
			}
			were, are = append(were, s), append(are, m)
		}
		for i := range were {
			is(t, were[i], are[i])
		}
	}
}

// P7.1: what comes of one stack in two ways doesn't touch the other, nor the stack.
func TestP7_1TwoWays(t *testing.T) {
	for n := range 12 {
		var s undo.Stack
		var m model
		for i := range n {
			s, m = pushes(t, s, m, api.Undo{Kind: 1, Mark: i}, 100)
		}
		for depth := 1; depth < n+3; depth++ {
			a, wantA := pushes(t, s, m, api.Undo{Kind: 1, Mark: 50}, depth)
			b, wantB := pushes(t, s, m, api.Undo{Kind: 2, Mark: 60, Text: "b"}, depth)
			c, wantC := pushes(t, s.Drop(n-1), m.drop(n-1), api.Undo{Kind: 1, Mark: 70}, depth)
			d, wantD := pushes(t, a, wantA, api.Undo{Kind: 1, Mark: 80}, depth)
			e, wantE := pushes(t, a, wantA, api.Undo{Kind: 1, Mark: 90}, depth)
			is(t, a, wantA)
			is(t, b, wantB)
			is(t, c, wantC)
			is(t, d, wantD)
			is(t, e, wantE)
			is(t, s.Drop(0), m.drop(0))
			is(t, s, m)
		}
	}
}

// P7.1: a thing that was answered is put on another stack, or the same one again.
func TestP7_1PushOfAnswered(t *testing.T) {
	s := must(t, sample())
	last, _ := s.Last(2)
	first, _ := s.Drop(13).Last(2)
	x, out := s.Push(first, 5)
	is(t, x, append(model(sample())[1:], sample()[1]))
	x, none := x.Push(out, 100)
	y, _ := x.Push(last, 2)
	if none != nil {
		t.Error(none)
	}
	is(t, x, append(append(model(sample())[1:], sample()[1]), sample()[0]))
	is(t, y, append(append(model(sample())[2:], sample()[1]), sample()[0], sample()[4]))
}

// P0, R6: no number, and nothing that is handed in, makes a call panic.
func TestP0AllArguments(t *testing.T) {
	bare := undo.Took{Doc: 1, Mark: 1, Text: new(rope.Rope)}
	for _, m := range []model{nil, sample()[:1], sample()} {
		s := must(t, m)
		for _, a := range edges() {
			for _, b := range edges() {
				u := api.Undo{Kind: 1, Doc: a, Mark: b, Label: a}
				x, want := pushes(t, s, m, u, b)
				is(t, x.Drop(a), want.drop(a))
				u = api.Undo{Kind: 2, Doc: b, Mark: a, Label: b, Text: "€"}
				x, want = pushes(t, x, want, u, a)
				lasts(t, x, want, b)
				is(t, x.Drop(b), want.drop(b))
			}
			for _, x := range append(noThings(t), bare) {
				other, _ := s.Push(x, a)
				if l := other.Drop(a).Plain(); len(l) > len(m)+1 {
					t.Fatal(x, l)
				}
				undo.Mark(x)
				undo.Label(x)
			}
		}
		is(t, s, m)
	}
	if got := undo.Text(bare); got != bare.Text {
		t.Error(got)
	}
}

// P0: plain values of all kinds, many of them wrong, are loaded or refused, and stay as they are.
func TestP0Load(t *testing.T) {
	r := rand.New(rand.NewSource(2))
	loaded := 0
	for range 5000 {
		var l []api.Undo
		wrong := false
		for range r.Intn(4) {
			u := drawn(r)
			switch r.Intn(8) {
			case 0:
				u.Text += "\xf0"
				wrong = true
			case 1:
				u.Kind = r.Intn(5)
				wrong = wrong || u.Kind < 1 || u.Kind > 2 || u.Kind == 1 && u.Text != ""
			}
			l = append(l, u)
		}
		before := slices.Clone(l)
		s, ok := undo.Load(l)
		if ok == wrong || !ok && !zero(s) {
			t.Fatal(l, ok)
		}
		if ok {
			loaded++
			is(t, s, before)
		}
		if !slices.Equal(l, before) {
			t.Fatal(l, before)
		}
	}
	if loaded == 0 || loaded == 5000 {
		t.Error(loaded)
	}
}

// P0: a stack of very many.
func TestP0VeryMany(t *testing.T) {
	const n = 100000
	var l []api.Undo
	for i := range n {
		l = append(l, api.Undo{Kind: 1 + i%2, Doc: i % 7, Mark: i % 10})
	}
	s := must(t, l)
	x, out := s.Push(undo.Put{Mark: 3}, 4)
	if got := x.Plain(); len(got) != n || got[0] != l[1] || told(t, out) != l[0] {
		t.Error(len(got), out)
	}
	if got := s.Drop(9).Plain(); len(got) != n/10*9 {
		t.Error(len(got))
	}
	lasts(t, s, l, 6)
	lasts(t, s, l, 7)
}

// spoil writes over all of l, and the room behind it.
func spoil(l []api.Undo) {
	for i := range l[:cap(l)] {
		l[:cap(l)][i] = api.Undo{Kind: 2, Doc: -9, Mark: -9, Label: -9, Text: "spoilt"}
	}
}

// R4: no list that was handed in or answered is kept; each that is answered is new memory.
func TestR4ListsAreNotKept(t *testing.T) {
	l := sample()
	s := must(t, l)
	spoil(l)
	is(t, s, sample())
	spoil(s.Plain())
	is(t, s, sample())
	same := s.Drop(99)
	refused, _ := s.Push(7, 1)
	for _, x := range []undo.Stack{same, refused} {
		spoil(x.Plain())
		is(t, x, sample())
	}
	is(t, s, sample())
}

// R4: a list that is handed in, and the room behind it, are not written to.
func TestR4RoomBehind(t *testing.T) {
	l := append(make([]api.Undo, 0, 9), sample()...)
	s := must(t, l[:2])
	for i := range 5 {
		s, _ = s.Push(undo.Put{Mark: i}, 3)
		s = s.Drop(i - 1)
	}
	if !slices.Equal(l, sample()) {
		t.Error(l)
	}
	if rest := l[5:cap(l)]; !slices.Equal(rest, make([]api.Undo, len(rest))) {
		t.Error(rest)
	}
}

// R7: two stacks that came about in unlike ways, but have the same things, are answered the same.
func TestR7(t *testing.T) {
	a := must(t, sample())
	var b undo.Stack
	for i, u := range append([]api.Undo{{Kind: 1, Mark: 90}, {Kind: 2, Mark: 91, Text: "gone"}}, sample()...) {
		b, _ = b.Push(thing(t, u), len(sample()))
		b, _ = b.Push(i, 1)
	}
	b, _ = b.Push(undo.Put{Mark: 92}, 100)
	b = b.Drop(92)
	for _, n := range edges() {
		is(t, b.Drop(n), a.Drop(n).Plain())
		lasts(t, b, a.Plain(), n)
		x, outX := a.Push(undo.Put{Mark: 3}, n)
		y, outY := b.Push(undo.Put{Mark: 3}, n)
		is(t, y, x.Plain())
		if (outX == nil) != (outY == nil) || outX != nil && told(t, outX) != told(t, outY) {
			t.Error(n, outX, outY)
		}
	}
}
