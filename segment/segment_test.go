package segment_test

import (
	"math"
	"math/rand"
	"reflect"
	"strings"
	"testing"

	"chancel/api"
	"chancel/letters"
	"chancel/rope"
	"chancel/segment"
)

// edges: numbers at the ends of their range, and about 0.
func edges() []int {
	return []int{math.MinInt, math.MinInt + 1, -2, -1, 0, 1, 2, 5, math.MaxInt - 1, math.MaxInt}
}

// wide: a room in which all tests' texts have room.
const wide = math.MaxInt

// sample: "aä€defgh" of 10 bytes and 8 letters, with spans of 7 about one of 8, and sites at its ends and between.
func sample() api.Seg {
	return api.Seg{
		Id: 4, Label: 2, Text: "aä€defgh",
		Spans: []api.Span{{Mark: 7, From: 1, To: 3}, {Mark: 8, From: 3, To: 5}, {Mark: 7, From: 5, To: 6}},
		Sites: []api.Site{{Mark: 3, At: 0}, {Mark: 5, At: 2}, {Mark: 3, At: 4}, {Mark: 7, At: 4}, {Mark: 9, At: 8}},
	}
}

// plain: a segment of the Id 4 and the label 2.
func plain(text string, spans []api.Span, sites []api.Site) api.Seg {
	return api.Seg{Id: 4, Label: 2, Text: text, Spans: spans, Sites: sites}
}

// P5.1: the examples of the chapter.
func TestP5_1Examples(t *testing.T) {
	s, _ := segment.New(0, 0).Insert(0, of(t, "abc"), 0, wide)
	a, ok := s.Insert(1, of(t, "xy"), 7, wide)
	if !ok {
		t.Fatal("no room")
	}
	is(t, a, api.Seg{Text: "axybc", Spans: []api.Span{{Mark: 7, From: 1, To: 3}}})
	b, gone := a.Delete(2, 2, 8)
	if gone.Text() != "yb" {
		t.Error(gone.Text())
	}
	is(t, b, api.Seg{Text: "axc", Spans: []api.Span{{Mark: 7, From: 1, To: 2}}, Sites: []api.Site{{Mark: 8, At: 2}}})
	c := b.Unput(7)
	is(t, c, api.Seg{Text: "ac", Sites: []api.Site{{Mark: 8, At: 1}}})
	d, ok := c.Untake(8, gone, wide)
	if !ok {
		t.Fatal("no site, or no room")
	}
	is(t, d, api.Seg{Text: "aybc"})
	is(t, s, api.Seg{Text: "abc"})
}

// P5.1: a new one is empty, whatever its numbers; the zero value is that of 0 and 0.
func TestP5_1New(t *testing.T) {
	for _, id := range edges() {
		for _, label := range edges() {
			s := segment.New(id, label)
			is(t, s, api.Seg{Id: id, Label: label})
			if s.Rope() != nil && s.Rope().Len() > 0 || s.Has(0) || s.Has(1) {
				t.Fatal(s.Plain())
			}
		}
	}
	var zero segment.Segment
	is(t, zero, api.Seg{})
	if !reflect.DeepEqual(zero, segment.New(0, 0)) {
		t.Error("the zero value isn't New(0, 0)")
	}
	s, ok := zero.Insert(0, of(t, "ab"), 1, 2)
	if !ok {
		t.Fatal("no room")
	}
	is(t, s, api.Seg{Text: "ab", Spans: []api.Span{{Mark: 1, From: 0, To: 2}}})
	is(t, zero, api.Seg{})
}

// P5.1: what is right is loaded as it is, and told as it was.
func TestP5_1Load(t *testing.T) {
	for _, p := range []api.Seg{
		{}, sample(), plain("\x00", nil, nil), plain("", []api.Span{}, []api.Site{}),
		plain("", nil, []api.Site{{Mark: 1, At: 0}, {Mark: 2, At: 0}}),
		plain("ä", []api.Span{{Mark: 1, From: 0, To: 1}}, []api.Site{{Mark: 1, At: 1}}),
		plain("ab", []api.Span{{Mark: 1, From: 0, To: 1}, {Mark: 2, From: 1, To: 2}}, nil),
		plain(strings.Repeat("€", 1000), []api.Span{{Mark: math.MaxInt, From: 999, To: 1000}}, []api.Site{{Mark: math.MaxInt, At: 1000}}),
		{Id: math.MinInt, Label: math.MaxInt, Text: "\ufffd"},
		{Id: -1, Label: -1, Text: "a"},
	} {
		is(t, must(t, p), p)
	}
}

// P5.1, R2: a Text that isn't right, or marks that aren't of it, are not loaded; what is answered then is the zero value.
func TestP5_1LoadOfWrong(t *testing.T) {
	span := func(l ...api.Span) api.Seg { return plain("äbc", l, nil) }
	site := func(l ...api.Site) api.Seg { return plain("äbc", nil, l) }
	for _, p := range []api.Seg{
		plain("\xff", nil, nil), plain("ab\x80", nil, nil), plain("\xed\xa0\x80", nil, nil), plain("\xc0\x80", nil, nil), plain("€"[:2], nil, nil),
		plain(strings.Repeat("€", 100)+"\xe2", nil, nil), plain("\xff", []api.Span{{Mark: 1, From: 0, To: 1}}, nil),
		span(api.Span{Mark: 1, From: 0, To: 4}), span(api.Span{Mark: 1, From: 3, To: 4}), span(api.Span{Mark: 0, From: 0, To: 1}), span(api.Span{Mark: -1, From: 0, To: 1}),
		span(api.Span{Mark: 1, From: 1, To: 1}), span(api.Span{Mark: 1, From: 2, To: 1}), span(api.Span{Mark: 1, From: -1, To: 1}),
		span(api.Span{Mark: 1, From: 0, To: 1}, api.Span{Mark: 1, From: 1, To: 2}), span(api.Span{Mark: 1, From: 0, To: 2}, api.Span{Mark: 2, From: 1, To: 3}), span(api.Span{Mark: 1, From: 2, To: 3}, api.Span{Mark: 2, From: 0, To: 1}),
		site(api.Site{Mark: 1, At: 4}), site(api.Site{Mark: 1, At: -1}), site(api.Site{Mark: 0, At: 1}), site(api.Site{Mark: -1, At: 1}),
		site(api.Site{Mark: 1, At: 1}, api.Site{Mark: 1, At: 1}), site(api.Site{Mark: 2, At: 1}, api.Site{Mark: 1, At: 1}), site(api.Site{Mark: 1, At: 2}, api.Site{Mark: 1, At: 1}),
		plain("", []api.Span{{Mark: 1, From: 0, To: 1}}, nil), plain("", nil, []api.Site{{Mark: 1, At: 1}}),
		plain("a", []api.Span{{Mark: 1, From: math.MinInt, To: math.MaxInt}}, nil), plain("a", nil, []api.Site{{Mark: 1, At: math.MaxInt}}),
	} {
		s, ok := segment.Load(p)
		if ok || !reflect.DeepEqual(s, segment.Segment{}) {
			t.Errorf("Load(%v): %v, %v", p, s.Plain(), ok)
		}
	}
}

// P5.1: Insert at each kind of place, under marks and under none.
func TestP5_1Insert(t *testing.T) {
	s := must(t, sample())
	for _, x := range []struct {
		at   int
		t    string
		mark int
		want api.Seg
	}{
		{0, "ö", 6, plain("öaä€defgh", []api.Span{{Mark: 6, From: 0, To: 1}, {Mark: 7, From: 2, To: 4}, {Mark: 8, From: 4, To: 6}, {Mark: 7, From: 6, To: 7}}, []api.Site{{Mark: 3, At: 0}, {Mark: 5, At: 3}, {Mark: 3, At: 5}, {Mark: 7, At: 5}, {Mark: 9, At: 9}})},
		{-9, "ö", 0, plain("öaä€defgh", []api.Span{{Mark: 7, From: 2, To: 4}, {Mark: 8, From: 4, To: 6}, {Mark: 7, From: 6, To: 7}}, []api.Site{{Mark: 3, At: 0}, {Mark: 5, At: 3}, {Mark: 3, At: 5}, {Mark: 7, At: 5}, {Mark: 9, At: 9}})},
		{4, "xy", 6, plain("aä€dxyefgh", []api.Span{{Mark: 7, From: 1, To: 3}, {Mark: 8, From: 3, To: 4}, {Mark: 6, From: 4, To: 6}, {Mark: 8, From: 6, To: 7}, {Mark: 7, From: 7, To: 8}}, []api.Site{{Mark: 3, At: 0}, {Mark: 5, At: 2}, {Mark: 3, At: 4}, {Mark: 7, At: 4}, {Mark: 9, At: 10}})},
		{3, "xy", 8, plain("aä€xydefgh", []api.Span{{Mark: 7, From: 1, To: 3}, {Mark: 8, From: 3, To: 7}, {Mark: 7, From: 7, To: 8}}, []api.Site{{Mark: 3, At: 0}, {Mark: 5, At: 2}, {Mark: 3, At: 6}, {Mark: 7, At: 6}, {Mark: 9, At: 10}})},
		{8, "xy", -8, plain("aä€defghxy", []api.Span{{Mark: 7, From: 1, To: 3}, {Mark: 8, From: 3, To: 5}, {Mark: 7, From: 5, To: 6}}, sample().Sites)},
		{99, "€", 1, plain("aä€defgh€", []api.Span{{Mark: 7, From: 1, To: 3}, {Mark: 8, From: 3, To: 5}, {Mark: 7, From: 5, To: 6}, {Mark: 1, From: 8, To: 9}}, sample().Sites)},
		{2, "", 1, sample()},
	} {
		got, ok := s.Insert(x.at, of(t, x.t), x.mark, wide)
		if !ok {
			t.Fatal("no room", x.at, x.t)
		}
		is(t, got, x.want)
	}
	is(t, s, sample())
}

// P5.1: the room is counted in bytes; what has just as many as quota has room, one more has none, and changes nothing.
func TestP5_1Room(t *testing.T) {
	s := must(t, sample())
	bytes := len(sample().Text)
	for _, x := range []struct {
		t     string
		quota int
		ok    bool
	}{
		{"x", bytes + 1, true}, {"x", bytes, false}, {"ä", bytes + 2, true}, {"ä", bytes + 1, false}, {"€", bytes + 3, true}, {"€", bytes + 2, false},
		{"", bytes, true}, {"", bytes - 1, false}, {"", 0, false}, {"", -1, false}, {"x", 0, false}, {"x", -1, false},
		{"x", math.MinInt, false}, {"", math.MinInt, false}, {"x", math.MinInt + 1, false}, {"x", math.MinInt + bytes, false}, {"x", math.MaxInt, true},
		{strings.Repeat("x", 1000-bytes), api.MaxQuota, true}, {strings.Repeat("x", 1001-bytes), api.MaxQuota, false},
	} {
		got, ok := s.Insert(3, of(t, x.t), 6, x.quota)
		back, untaken := s.Untake(5, of(t, x.t), x.quota)
		if ok != x.ok || untaken != x.ok {
			t.Fatalf("%d bytes, %d of quota: %v, %v", bytes+len(x.t), x.quota, ok, untaken)
		}
		if !ok {
			is(t, got, sample())
			is(t, back, sample())
		}
	}
	for _, quota := range edges() {
		if _, ok := segment.New(1, 1).Insert(0, nil, 1, quota); ok != (quota >= 0) {
			t.Error("nothing into nothing, of quota", quota, ok)
		}
	}
}

// P5.1: Delete of nothing, of parts of spans and of all; the letters are answered.
func TestP5_1Delete(t *testing.T) {
	s := must(t, sample())
	none := []api.Span(nil)
	for _, x := range []struct {
		at, n, mark int
		gone        string
		want        api.Seg
	}{
		{3, 0, 0, "", sample()}, {3, -1, 0, "", sample()}, {3, math.MinInt, -1, "", sample()}, {99, 5, 0, "", sample()}, {8, math.MaxInt, 0, "", sample()},
		{4, -5, 6, "", plain("aä€defgh", sample().Spans, []api.Site{{Mark: 3, At: 0}, {Mark: 5, At: 2}, {Mark: 3, At: 4}, {Mark: 6, At: 4}, {Mark: 7, At: 4}, {Mark: 9, At: 8}})},
		{99, 1, 6, "", plain("aä€defgh", sample().Spans, []api.Site{{Mark: 3, At: 0}, {Mark: 5, At: 2}, {Mark: 3, At: 4}, {Mark: 7, At: 4}, {Mark: 6, At: 8}, {Mark: 9, At: 8}})},
		{3, 2, 0, "de", plain("aä€fgh", []api.Span{{Mark: 7, From: 1, To: 4}}, []api.Site{{Mark: 3, At: 0}, {Mark: 5, At: 2}, {Mark: 3, At: 3}, {Mark: 7, At: 3}, {Mark: 9, At: 6}})},
		{3, 2, 4, "de", plain("aä€fgh", []api.Span{{Mark: 7, From: 1, To: 4}}, []api.Site{{Mark: 3, At: 0}, {Mark: 5, At: 2}, {Mark: 3, At: 3}, {Mark: 4, At: 3}, {Mark: 7, At: 3}, {Mark: 9, At: 6}})},
		{-5, 2, 4, "aä", plain("€defgh", []api.Span{{Mark: 7, From: 0, To: 1}, {Mark: 8, From: 1, To: 3}, {Mark: 7, From: 3, To: 4}}, []api.Site{{Mark: 3, At: 0}, {Mark: 4, At: 0}, {Mark: 5, At: 0}, {Mark: 3, At: 2}, {Mark: 7, At: 2}, {Mark: 9, At: 6}})},
		{6, 99, 9, "gh", plain("aä€def", sample().Spans, []api.Site{{Mark: 3, At: 0}, {Mark: 5, At: 2}, {Mark: 3, At: 4}, {Mark: 7, At: 4}, {Mark: 9, At: 6}})},
		{math.MinInt, math.MaxInt, 1, "aä€defgh", plain("", none, []api.Site{{Mark: 1, At: 0}, {Mark: 3, At: 0}, {Mark: 5, At: 0}, {Mark: 7, At: 0}, {Mark: 9, At: 0}})},
		{1, math.MaxInt, 0, "ä€defgh", plain("a", none, []api.Site{{Mark: 3, At: 0}, {Mark: 3, At: 1}, {Mark: 5, At: 1}, {Mark: 7, At: 1}, {Mark: 9, At: 1}})},
	} {
		got, gone := s.Delete(x.at, x.n, x.mark)
		if gone.Text() != x.gone {
			t.Errorf("Delete of %d at %d: %q, not %q", x.n, x.at, gone.Text(), x.gone)
		}
		is(t, got, x.want)
	}
	is(t, s, sample())
}

// P5.1: Has of marks with spans, with sites, with both, and of numbers that are no marks.
func TestP5_1Has(t *testing.T) {
	s := must(t, sample())
	for _, x := range []struct {
		mark int
		has  bool
	}{{7, true}, {8, true}, {3, true}, {5, true}, {9, true}, {1, false}, {4, false}, {6, false}, {10, false}, {0, false}, {-7, false}, {math.MinInt, false}, {math.MaxInt, false}} {
		if s.Has(x.mark) != x.has {
			t.Error("Has", x.mark, !x.has)
		}
	}
}

// P5.1: Unput takes the letters of all spans away, and drops the sites too; of a mark that isn't there it changes nothing.
func TestP5_1Unput(t *testing.T) {
	s := must(t, sample())
	for _, x := range []struct {
		mark int
		want api.Seg
	}{
		{7, plain("adegh", []api.Span{{Mark: 8, From: 1, To: 3}}, []api.Site{{Mark: 3, At: 0}, {Mark: 5, At: 1}, {Mark: 3, At: 2}, {Mark: 9, At: 5}})},
		{8, plain("aä€fgh", []api.Span{{Mark: 7, From: 1, To: 4}}, []api.Site{{Mark: 3, At: 0}, {Mark: 5, At: 2}, {Mark: 3, At: 3}, {Mark: 7, At: 3}, {Mark: 9, At: 6}})},
		{3, plain("aä€defgh", sample().Spans, []api.Site{{Mark: 5, At: 2}, {Mark: 7, At: 4}, {Mark: 9, At: 8}})},
		{1, sample()}, {0, sample()}, {-7, sample()}, {math.MinInt, sample()}, {math.MaxInt, sample()},
	} {
		is(t, s.Unput(x.mark), x.want)
	}
	is(t, s.Unput(8).Unput(7), plain("agh", nil, []api.Site{{Mark: 3, At: 0}, {Mark: 3, At: 1}, {Mark: 5, At: 1}, {Mark: 9, At: 3}}))
	is(t, s, sample())
}

// P5.1: Untake puts at the first site, under no mark, and drops all of the mark; a span alone is no site.
func TestP5_1Untake(t *testing.T) {
	s := must(t, sample())
	for _, x := range []struct {
		mark int
		ok   bool
		want api.Seg
	}{
		{3, true, plain("xyaä€defgh", []api.Span{{Mark: 7, From: 3, To: 5}, {Mark: 8, From: 5, To: 7}, {Mark: 7, From: 7, To: 8}}, []api.Site{{Mark: 5, At: 4}, {Mark: 7, At: 6}, {Mark: 9, At: 10}})},
		{5, true, plain("aäxy€defgh", []api.Span{{Mark: 7, From: 1, To: 2}, {Mark: 7, From: 4, To: 5}, {Mark: 8, From: 5, To: 7}, {Mark: 7, From: 7, To: 8}}, []api.Site{{Mark: 3, At: 0}, {Mark: 3, At: 6}, {Mark: 7, At: 6}, {Mark: 9, At: 10}})},
		{7, true, plain("aä€dxyefgh", []api.Span{{Mark: 8, From: 3, To: 4}, {Mark: 8, From: 6, To: 7}}, []api.Site{{Mark: 3, At: 0}, {Mark: 5, At: 2}, {Mark: 3, At: 4}, {Mark: 9, At: 10}})},
		{9, true, plain("aä€defghxy", sample().Spans, []api.Site{{Mark: 3, At: 0}, {Mark: 5, At: 2}, {Mark: 3, At: 4}, {Mark: 7, At: 4}})},
		{8, false, sample()}, {1, false, sample()}, {0, false, sample()}, {-3, false, sample()}, {math.MinInt, false, sample()}, {math.MaxInt, false, sample()},
	} {
		got, ok := s.Untake(x.mark, of(t, "xy"), wide)
		if ok != x.ok {
			t.Error("Untake", x.mark, ok)
		}
		is(t, got, x.want)
	}
	got, ok := s.Untake(5, nil, len(sample().Text))
	if !ok {
		t.Error("Untake of nothing")
	}
	is(t, got, plain("aä€defgh", sample().Spans, []api.Site{{Mark: 3, At: 0}, {Mark: 3, At: 4}, {Mark: 7, At: 4}, {Mark: 9, At: 8}}))
	is(t, s, sample())
}

// P5.1: Forget drops spans and sites, and leaves the letters.
func TestP5_1Forget(t *testing.T) {
	s := must(t, sample())
	for _, x := range []struct {
		mark int
		want api.Seg
	}{
		{7, plain("aä€defgh", []api.Span{{Mark: 8, From: 3, To: 5}}, []api.Site{{Mark: 3, At: 0}, {Mark: 5, At: 2}, {Mark: 3, At: 4}, {Mark: 9, At: 8}})},
		{3, plain("aä€defgh", sample().Spans, []api.Site{{Mark: 5, At: 2}, {Mark: 7, At: 4}, {Mark: 9, At: 8}})},
		{1, sample()}, {0, sample()}, {-7, sample()}, {math.MinInt, sample()}, {math.MaxInt, sample()},
	} {
		is(t, s.Forget(x.mark), x.want)
	}
	is(t, s, sample())
}

// P5.1: Part at each kind of place: who has which letters, numbers, labels and marks.
func TestP5_1Part(t *testing.T) {
	s := must(t, sample())
	for _, x := range []struct {
		at, n               int
		first, second, last api.Seg
	}{
		{3, 2, plain("aä€", []api.Span{{Mark: 7, From: 1, To: 3}}, []api.Site{{Mark: 3, At: 0}, {Mark: 5, At: 2}}), api.Seg{Text: "de"}, plain("fgh", []api.Span{{Mark: 7, From: 0, To: 1}}, []api.Site{{Mark: 9, At: 3}})},
		{2, 1, plain("aä", []api.Span{{Mark: 7, From: 1, To: 2}}, []api.Site{{Mark: 3, At: 0}, {Mark: 5, At: 2}}), api.Seg{Text: "€"}, plain("defgh", []api.Span{{Mark: 8, From: 0, To: 2}, {Mark: 7, From: 2, To: 3}}, []api.Site{{Mark: 3, At: 1}, {Mark: 7, At: 1}, {Mark: 9, At: 5}})},
		{4, 0, plain("aä€d", []api.Span{{Mark: 7, From: 1, To: 3}, {Mark: 8, From: 3, To: 4}}, []api.Site{{Mark: 3, At: 0}, {Mark: 5, At: 2}, {Mark: 3, At: 4}, {Mark: 7, At: 4}}), api.Seg{}, plain("efgh", []api.Span{{Mark: 8, From: 0, To: 1}, {Mark: 7, From: 1, To: 2}}, []api.Site{{Mark: 9, At: 4}})},
		{-4, -1, plain("", nil, []api.Site{{Mark: 3, At: 0}}), api.Seg{}, plain("aä€defgh", sample().Spans, sample().Sites[1:])},
		{0, 99, plain("", nil, []api.Site{{Mark: 3, At: 0}}), api.Seg{Text: "aä€defgh"}, plain("", nil, nil)},
		{math.MinInt, math.MaxInt, plain("", nil, []api.Site{{Mark: 3, At: 0}}), api.Seg{Text: "aä€defgh"}, plain("", nil, nil)},
		{7, math.MaxInt, plain("aä€defg", sample().Spans, sample().Sites[:4]), api.Seg{Text: "h"}, plain("", nil, nil)},
		{99, 99, sample(), api.Seg{}, plain("", nil, nil)},
		{math.MaxInt, math.MaxInt, sample(), api.Seg{}, plain("", nil, nil)},
		{-1, 1, plain("", nil, []api.Site{{Mark: 3, At: 0}}), api.Seg{Text: "a"}, plain("ä€defgh", []api.Span{{Mark: 7, From: 0, To: 2}, {Mark: 8, From: 2, To: 4}, {Mark: 7, From: 4, To: 5}}, []api.Site{{Mark: 5, At: 1}, {Mark: 3, At: 3}, {Mark: 7, At: 3}, {Mark: 9, At: 7}})},
	} {
		for _, id := range edges() {
			first, second, last := s.Part(x.at, x.n, id, id/2, 3)
			x.second.Id, x.second.Label, x.last.Id = id, 3, id/2
			is(t, first, x.first)
			is(t, second, x.second)
			is(t, last, x.last)
		}
	}
	is(t, s, sample())
}

// P5.1: Piece and Twin: the same label, and no marks.
func TestP5_1PieceAndTwin(t *testing.T) {
	s := must(t, sample())
	for _, x := range []struct {
		at, n int
		text  string
	}{
		{0, 8, "aä€defgh"}, {0, 99, "aä€defgh"}, {math.MinInt, math.MaxInt, "aä€defgh"}, {1, 2, "ä€"}, {-3, 2, "aä"}, {2, math.MaxInt, "€defgh"}, {7, 1, "h"},
		{8, 1, ""}, {99, 1, ""}, {3, 0, ""}, {3, -1, ""}, {3, math.MinInt, ""}, {math.MaxInt, math.MaxInt, ""},
	} {
		for _, id := range edges() {
			is(t, s.Piece(x.at, x.n, id), api.Seg{Id: id, Label: 2, Text: x.text})
			is(t, s.Twin(id), api.Seg{Id: id, Label: 2, Text: "aä€defgh"})
		}
	}
	is(t, s, sample())
}

// asked: arguments of the calls.
type asked struct {
	at, n, mark, quota int
	t                  string
}

// all asks each call that answers a segment, and answers what came of it, with what must have come of it.
func all(t *testing.T, s segment.Segment, m model, x asked) ([]segment.Segment, []model) {
	t.Helper()
	from, to := m.stretch(x.at, x.n)
	r := of(t, x.t)
	room := len(text(m.letters))+len(x.t) <= x.quota
	inserted, ok := s.Insert(x.at, r, x.mark, x.quota)
	put := m
	if room {
		put = m.put(from, x.t, x.mark)
	}
	if ok != room {
		t.Fatalf("Insert %v into %v: %v", x, m.told(), ok)
	}
	deleted, gone := s.Delete(x.at, x.n, x.mark)
	if gone.Text() != text(m.letters[from:to]) {
		t.Fatalf("Delete %v from %v: %q", x, m.told(), gone.Text())
	}
	untaken, ok := s.Untake(x.mark, r, x.quota)
	back := m
	site, found := m.site(x.mark)
	if found && room {
		back = m.put(site, x.t, 0).forget(x.mark)
	}
	if ok != (found && room) {
		t.Fatalf("Untake %v into %v: %v", x, m.told(), ok)
	}
	if s.Has(x.mark) != m.has(x.mark) {
		t.Fatalf("Has %d of %v", x.mark, m.told())
	}
	a, b, c := s.Part(x.at, x.n, 51, 52, 53)
	d, e, f := m.part(from, to)
	e.id, e.label, f.id = 51, 53, 52
	piece, twin := e, model{id: 61, label: m.label}
	piece.label, piece.id = m.label, 61
	_, twin, _ = m.part(0, len(m.letters))
	twin.id = 62
	got := []segment.Segment{inserted, deleted, s.Unput(x.mark), untaken, s.Forget(x.mark), a, b, c, s.Piece(x.at, x.n, 61), s.Twin(62)}
	return got, []model{put, m.take(from, to, x.mark), m.unput(x.mark), back, m.forget(x.mark), d, e, f, piece, twin}
}

// small: each text of n letters, each of them and each site under 1, under 2 or under none.
func small(n int, see func(model)) {
	ways := 1
	for range n {
		ways *= 3
	}
	for range n + 1 {
		ways *= 4
	}
	for way := range ways {
		m := model{id: 4, label: 2, sites: map[api.Site]int{}}
		for i := range n {
			m.letters = append(m.letters, letter{[]rune{'a', 'ä', '€'}[i], way % 3})
			way /= 3
		}
		for at := range n + 1 {
			for mark := 1; mark <= 2; mark++ {
				if way%2 == 1 {
					m.sites[api.Site{Mark: mark, At: at}] = 1
				}
				way /= 2
			}
		}
		see(m)
	}
}

// P5.1: each call, of each small text, at each of its places and beside them.
func TestP5_1AllSmall(t *testing.T) {
	for n := range 3 {
		small(n, func(m model) {
			s := must(t, m.told())
			for at := -1; at <= n+1; at++ {
				for k := -1; k <= n+1; k++ {
					for mark := range 4 {
						got, want := all(t, s, m, asked{at, k, mark, 2 + at, []string{"", "ö", "xyz"}[(k+1)%3]})
						for i := range got {
							is(t, got[i], want[i].told())
						}
					}
				}
			}
			is(t, s, m.told())
		})
	}
}

// drawn: a text of up to six letters of one to four bytes.
func drawn(r *rand.Rand) string {
	s := ""
	for range r.Intn(7) {
		s += string([]rune{'a', 'z', 0, 'ä', '€', '\U0001F600'}[r.Intn(6)])
	}
	return s
}

// P5.1: many calls, one on what came of another; no segment that was there changes.
func TestP5_1Drawn(t *testing.T) {
	r := rand.New(rand.NewSource(1))
	for range 150 {
		m := model{id: 4, label: 2, sites: map[api.Site]int{}}
		s := segment.New(4, 2)
		var were []segment.Segment
		var are []api.Seg
		for range 60 {
			n := len(m.letters)
			x := asked{r.Intn(n+5) - 2, r.Intn(9) - 1, r.Intn(8) - 1, 10 + r.Intn(120), drawn(r)}
			got, want := all(t, s, m, x)
			for i := range got {
				were, are = append(were, got[i]), append(are, want[i].told())
			}
			// Insert and Delete above all; Unput, Untake, Forget and the first of a Part now and then.
			i := []int{0, 0, 0, 0, 1, 1, 2, 3, 3, 4, 5, 7}[r.Intn(12)]
			s, m = got[i], want[i]
			if len(m.letters) < n/2 {
				s, m = got[0], want[0]
			}
		}
		for i := range were {
			is(t, were[i], are[i])
		}
	}
}

// P5.1: what is inserted and undone at once is as if it hadn't been; of what is deleted the text is.
func TestP5_1UndoneAtOnce(t *testing.T) {
	r := rand.New(rand.NewSource(2))
	s := must(t, sample())
	for range 500 {
		at, n, word := r.Intn(12)-2, r.Intn(12)-2, drawn(r)
		before := s.Plain()
		put, ok := s.Insert(at, of(t, word), 100, wide)
		if !ok {
			t.Fatal("no room")
		}
		is(t, put.Unput(100), before)
		took, gone := s.Delete(at, n, 100)
		back, ok := took.Untake(100, gone, len(before.Text))
		if !ok || back.Has(100) || back.Rope().Text() != before.Text {
			t.Fatal(before, at, n, back.Plain(), ok)
		}
	}
}

// followed: letters that are told apart, and the mark that each was put under.
type followed struct {
	s     segment.Segment
	under map[rune]int
	next  rune
}

// insert puts up to four new letters.
func (f *followed) insert(t *testing.T, r *rand.Rand, mark int) {
	t.Helper()
	word := ""
	for range 1 + r.Intn(4) {
		word += string(f.next)
		f.under[f.next] = mark
		f.next++
	}
	s, ok := f.s.Insert(r.Intn(f.s.Rope().Len()+1), of(t, word), mark, wide)
	if !ok {
		t.Fatal("no room")
	}
	f.s = s
}

// without: s without the letters that were put under mark.
func (f *followed) without(s string, mark int) string {
	left := ""
	for _, c := range s {
		if f.under[c] != mark {
			left += string(c)
		}
	}
	return left
}

// P5.2: letters are followed one by one: those that were put under a mark, once or more, are gone behind its Unput, and all others stay, in their order.
func TestP5_2GoneWhateverElse(t *testing.T) {
	r := rand.New(rand.NewSource(3))
	for range 150 {
		f := &followed{under: map[rune]int{}, next: 0x4e00}
		for range 60 {
			switch r.Intn(8) {
			case 0, 1, 2, 3:
				f.insert(t, r, r.Intn(6))
			case 4, 5:
				f.s, _ = f.s.Delete(r.Intn(f.s.Rope().Len()+1), r.Intn(5), r.Intn(9))
			case 6:
				f.s, _ = f.s.Insert(r.Intn(f.s.Rope().Len()+1), nil, 1+r.Intn(5), wide)
			}
			for mark := 1; mark <= 5; mark++ {
				s := f.s.Unput(mark)
				if got, want := s.Rope().Text(), f.without(f.s.Rope().Text(), mark); got != want || s.Has(mark) {
					t.Fatalf("Unput %d of %v: %q, not %q", mark, f.s.Plain(), got, want)
				}
			}
		}
		text := f.s.Rope().Text()
		for mark := 5; mark >= 1; mark-- {
			f.s, text = f.s.Unput(mark), f.without(text, mark)
			if f.s.Rope().Text() != text {
				t.Fatal(mark, f.s.Plain(), text)
			}
		}
		if p := f.s.Plain(); len(p.Spans) > 0 {
			t.Fatal(p)
		}
	}
}

// P5.2: one insertion, others within it, and a deletion over its edge.
func TestP5_2Nested(t *testing.T) {
	s := must(t, plain("....", nil, nil))
	for _, x := range []asked{{at: 2, mark: 7, t: "abcdef"}, {at: 4, mark: 8, t: "XY"}, {at: 5, mark: 9, t: "u"}, {at: 7, mark: 0, t: "--"}} {
		s, _ = s.Insert(x.at, of(t, x.t), x.mark, wide)
	}
	if got := s.Rope().Text(); got != "..abXuY--cdef.." {
		t.Fatal(got)
	}
	s, gone := s.Delete(1, 2, 10)
	if gone.Text() != ".a" {
		t.Fatal(gone.Text())
	}
	is(t, s.Unput(7), plain(".XuY--..", []api.Span{{Mark: 8, From: 1, To: 2}, {Mark: 9, From: 2, To: 3}, {Mark: 8, From: 3, To: 4}}, []api.Site{{Mark: 10, At: 1}}))
	is(t, s.Unput(8).Unput(9), plain(".b--cdef..", []api.Span{{Mark: 7, From: 1, To: 2}, {Mark: 7, From: 4, To: 8}}, []api.Site{{Mark: 10, At: 1}}))
	is(t, s.Unput(9), plain(".bXY--cdef..", []api.Span{{Mark: 7, From: 1, To: 2}, {Mark: 8, From: 2, To: 4}, {Mark: 7, From: 6, To: 10}}, []api.Site{{Mark: 10, At: 1}}))
}

// P5.2: a text in which each second letter is of the mark.
func TestP5_2VeryMany(t *testing.T) {
	const n = 1000
	p := plain(strings.Repeat("ax", n), nil, nil)
	want := plain(strings.Repeat("a", n), nil, nil)
	for i := range n {
		p.Spans = append(p.Spans, api.Span{Mark: 7, From: 2*i + 1, To: 2*i + 2})
		p.Sites = append(p.Sites, api.Site{Mark: 1 + i%2, At: 2*i + 2})
		want.Sites = append(want.Sites, api.Site{Mark: 1 + i%2, At: i + 1})
	}
	is(t, must(t, p).Unput(7), want)
}

// P0, R6: no number, and no rope, makes a call panic, or sum what could wrap.
func TestP0AllArguments(t *testing.T) {
	ropes := []*rope.Rope{nil, new(rope.Rope), of(t, ""), of(t, "x€")}
	for _, s := range []segment.Segment{{}, segment.New(-1, -1), must(t, sample())} {
		whole := s.Rope().Text()
		before := copied(s.Plain())
		for _, a := range edges() {
			for _, b := range edges() {
				from := clamp(a, s.Rope().Len())
				cut := letters.Cut(whole, from, from+clamp(b, s.Rope().Len()))
				for _, mark := range []int{math.MinInt, -1, 0, 3, 7, math.MaxInt} {
					left, gone := s.Delete(a, b, mark)
					if gone.Text() != cut || left.Rope().Bytes() != len(whole)-len(cut) {
						t.Fatal(a, b, mark, gone.Text())
					}
					for _, r := range ropes {
						put, ok := s.Insert(a, r, mark, b)
						if room := b >= len(whole)+r.Bytes(); ok != room || ok && put.Rope().Text() != letters.Put(whole, a, r.Text()) {
							t.Fatal(a, b, mark, put.Plain(), ok)
						}
						if back, ok := s.Untake(mark, r, b); ok && len(back.Plain().Text) > b {
							t.Fatal(b, mark, back.Plain())
						}
					}
					s.Has(mark)
					s.Unput(mark)
					s.Forget(mark)
				}
				first, second, last := s.Part(a, b, a, b, a)
				if second.Rope().Text() != cut || first.Rope().Text()+cut+last.Rope().Text() != whole || s.Piece(a, b, b).Rope().Text() != cut {
					t.Fatal(a, b, second.Plain())
				}
				s.Twin(a)
			}
		}
		is(t, s, before)
	}
}

// P0: plain values of all kinds, most of them wrong, are loaded or refused.
func TestP0Load(t *testing.T) {
	r := rand.New(rand.NewSource(4))
	some := func() int { return edges()[r.Intn(len(edges()))] }
	loaded := 0
	for range 20000 {
		p := api.Seg{Id: some(), Label: some(), Text: []string{"", "a", "äbcde", "\xff", "a\xc3"}[r.Intn(5)]}
		for range r.Intn(3) {
			p.Spans = append(p.Spans, api.Span{Mark: some(), From: some(), To: some()})
		}
		for range r.Intn(3) {
			p.Sites = append(p.Sites, api.Site{Mark: some(), At: some()})
		}
		before := copied(p)
		s, ok := segment.Load(p)
		if ok {
			loaded++
			is(t, s, before)
		}
		if !same(p, before) {
			t.Fatal(p)
		}
	}
	if loaded == 0 {
		t.Error("none was right")
	}
}

// spoil writes over all lists of p, and over the room behind them.
func spoil(p api.Seg) {
	for i := range p.Spans[:cap(p.Spans)] {
		p.Spans[:cap(p.Spans)][i] = api.Span{Mark: -9, From: -9, To: -9}
	}
	for i := range p.Sites[:cap(p.Sites)] {
		p.Sites[:cap(p.Sites)][i] = api.Site{Mark: -9, At: -9}
	}
}

// R4: neither the lists that were loaded nor those that were told are kept.
func TestR4ListsAreNotKept(t *testing.T) {
	p := sample()
	s := must(t, p)
	spoil(p)
	is(t, s, sample())
	refused, _ := s.Insert(0, of(t, "x"), 1, 0)
	untaken, _ := s.Untake(1, nil, 0)
	for _, x := range []segment.Segment{s, refused, untaken, s.Unput(99), s.Forget(99)} {
		spoil(x.Plain())
		is(t, x, sample())
	}
	is(t, s, sample())
}

// R4: the room behind lists that are handed in is not written to.
func TestR4RoomBehind(t *testing.T) {
	p := sample()
	p.Spans = append(p.Spans, api.Span{Mark: -1, From: -2, To: -3})
	p.Sites = append(p.Sites, api.Site{Mark: -1, At: -2})
	before := copied(p)
	q := p
	q.Spans, q.Sites = p.Spans[:len(p.Spans)-1], p.Sites[:len(p.Sites)-1]
	s := must(t, q)
	a, _ := s.Insert(8, of(t, "xyz"), 6, wide)
	b, _ := a.Delete(7, 3, 11)
	b.Unput(6).Forget(7)
	s.Part(2, 3, 5, 6, 7)
	if !same(p, before) {
		t.Errorf("%v has become %v", before, p)
	}
	is(t, s, sample())
}

// R7: two segments that came about alike, whatever room is behind their lists, are answered the same.
func TestR7(t *testing.T) {
	p, q := sample(), sample()
	q.Spans, q.Sites = append(make([]api.Span, 0, 50), q.Spans...), append(make([]api.Site, 0, 50), q.Sites...)
	a, b := must(t, p), must(t, q)
	for at := -1; at < 10; at++ {
		for mark := range 10 {
			x, _ := a.Insert(at, of(t, "x"), mark, wide)
			y, _ := b.Insert(at, of(t, "x"), mark, wide)
			is(t, x, y.Plain())
			x, _ = x.Delete(at, mark, mark)
			y, _ = y.Delete(at, mark, mark)
			is(t, x, y.Plain())
			is(t, x.Unput(mark), y.Unput(mark).Plain())
		}
	}
}
