package view_test

import (
	"errors"
	"math"
	"math/rand"
	"slices"
	"strings"
	"testing"

	"chancel/api"
	"chancel/rope"
	"chancel/sheet"
	"chancel/view"
)

// pieces: those of the chapter's examples; what isn't open has an N that must play no part.
func pieces() []api.Piece {
	return []api.Piece{{Id: 1, N: 3, Open: true}, {Id: 2, N: 7}, {Id: 3, N: 2, Open: true}}
}

// sample: five segments of three labels, one of them without letters, some with marks.
func sample() []api.Seg {
	return []api.Seg{
		{Id: 4, Label: 2, Text: "aä€\U0001F600", Spans: []api.Span{{Mark: 7, From: 1, To: 3}}, Sites: []api.Site{{Mark: 5, At: 4}}},
		{Id: 9, Label: 1, Text: "secret"},
		{Id: 0, Label: 2},
		{Id: -3, Label: 0, Text: "xyz", Spans: []api.Span{{Mark: 8, From: 0, To: 1}}},
		{Id: 7, Label: 1, Text: "not told", Sites: []api.Site{{Mark: 9, At: 0}}},
	}
}

// all, none: open of each label, and of none.
func all(int) bool  { return true }
func none(int) bool { return false }

// of: open of these labels.
func of(labels ...int) func(int) bool {
	return func(label int) bool { return slices.Contains(labels, label) }
}

// opens: functions that say so of unlike labels.
func opens() []func(int) bool {
	return []func(int) bool{all, none, of(0), of(1), of(2), of(0, 1), of(0, 2), of(1, 2)}
}

// P8.1: the examples of the chapter.
func TestP8_1Examples(t *testing.T) {
	l := pieces()
	if n := view.Width(l); n != 6 {
		t.Error("Width", n)
	}
	if id, at, ok := view.Address(l, 3); id != 1 || at != 3 || !ok {
		t.Error("Address 3", id, at, ok)
	}
	if id, at, ok := view.Address(l, 4); id != 2 || at != 1 || !ok {
		t.Error("Address 4", id, at, ok)
	}
	if n, ok := view.Offset(l, 2, 9); n != 4 || !ok {
		t.Error("Offset", n, ok)
	}
}

// P8.1: Width: what isn't open counts as one, whatever its N; the label and the Id play no part.
func TestP8_1Width(t *testing.T) {
	for _, x := range []struct {
		l []api.Piece
		n int
	}{
		{nil, 0}, {[]api.Piece{}, 0},
		{[]api.Piece{{Open: true}}, 0}, {[]api.Piece{{}}, 1}, {[]api.Piece{{N: 1}}, 1}, {[]api.Piece{{N: 1 << 40}}, 1},
		{[]api.Piece{{N: 1 << 40, Open: true}}, 1 << 40}, {[]api.Piece{{Id: 9, Label: 8, N: 5, Open: true}, {Id: 9, Label: 8, N: 5}}, 6},
		{[]api.Piece{{Id: -1, Open: true}, {Id: 4, Label: -1}, {Id: 5, Open: true}, {Id: 6}}, 2},
		{slices.Repeat([]api.Piece{{N: 1 << 40, Open: true}}, 1000), 1000 << 40},
		{slices.Repeat([]api.Piece{{N: 1 << 40}}, 1000), 1000},
	} {
		if got := view.Width(x.l); got != x.n {
			t.Errorf("Width(%v): %d, not %d", x.l, got, x.n)
		}
	}
}

// P8.1: Address: where two pieces meet the first one has it; one without letters has it only where none ahead ends there.
func TestP8_1Address(t *testing.T) {
	empty := []api.Piece{{Id: 5, Open: true}, {Id: 6, Open: true}, {Id: 7, N: 2, Open: true}, {Id: 8, Open: true}, {Id: 9, N: 4}, {Id: 10, Open: true}, {Id: 11}}
	for _, x := range []struct {
		l              []api.Piece
		offset, id, at int
	}{
		{pieces(), math.MinInt, 1, 0}, {pieces(), -1, 1, 0}, {pieces(), 0, 1, 0}, {pieces(), 2, 1, 2}, {pieces(), 3, 1, 3}, {pieces(), 4, 2, 1},
		{pieces(), 5, 3, 1}, {pieces(), 6, 3, 2}, {pieces(), 7, 3, 2}, {pieces(), math.MaxInt, 3, 2},
		{empty, -1, 5, 0}, {empty, 0, 5, 0}, {empty, 1, 7, 1}, {empty, 2, 7, 2}, {empty, 3, 9, 1}, {empty, 4, 11, 1}, {empty, 5, 11, 1},
		{[]api.Piece{{Id: 2, N: 3}}, 0, 2, 0}, {[]api.Piece{{Id: 2, N: 3}}, 1, 2, 1}, {[]api.Piece{{Id: 2, N: 3}}, 2, 2, 1}, {[]api.Piece{{Id: 2}}, 9, 2, 1},
		{[]api.Piece{{Id: 3, Open: true}, {Id: 4, Open: true}}, 0, 3, 0}, {[]api.Piece{{Id: 3, Open: true}, {Id: 4, Open: true}}, 1, 3, 0},
		{[]api.Piece{{Id: 1}, {Id: 1}, {Id: 1}}, 2, 1, 1}, {[]api.Piece{{Id: 0, N: 1, Open: true}, {Id: math.MinInt, N: 1, Open: true}}, 2, math.MinInt, 1},
	} {
		if id, at, ok := view.Address(x.l, x.offset); id != x.id || at != x.at || !ok {
			t.Errorf("Address(%v, %d): %d, %d, %v, not %d, %d", x.l, x.offset, id, at, ok, x.id, x.at)
		}
	}
}

// P8.1, R2: of no pieces there is no address.
func TestP8_1AddressOfNone(t *testing.T) {
	for _, l := range [][]api.Piece{nil, {}} {
		for _, n := range edges() {
			if id, at, ok := view.Address(l, n); id != 0 || at != 0 || ok {
				t.Error(n, id, at, ok)
			}
		}
	}
}

// P8.1: Offset: the place is clamped to its piece; of several of one Id the first one is meant.
func TestP8_1Offset(t *testing.T) {
	twice := []api.Piece{{Id: 4}, {Id: 7, N: 2, Open: true}, {Id: 7, N: 9, Open: true}, {Id: 4, N: 5, Open: true}, {Id: 8, Open: true}}
	for _, x := range []struct {
		l         []api.Piece
		id, at, n int
	}{
		{pieces(), 1, math.MinInt, 0}, {pieces(), 1, -1, 0}, {pieces(), 1, 0, 0}, {pieces(), 1, 2, 2}, {pieces(), 1, 3, 3}, {pieces(), 1, 4, 3}, {pieces(), 1, math.MaxInt, 3},
		{pieces(), 2, -1, 3}, {pieces(), 2, 0, 3}, {pieces(), 2, 1, 4}, {pieces(), 2, 2, 4}, {pieces(), 2, 7, 4}, {pieces(), 2, math.MinInt, 3}, {pieces(), 2, math.MaxInt, 4},
		{pieces(), 3, -1, 4}, {pieces(), 3, 1, 5}, {pieces(), 3, 9, 6},
		{twice, 4, 5, 1}, {twice, 7, 5, 3}, {twice, 7, 1, 2}, {twice, 8, -1, 17}, {twice, 8, 0, 17}, {twice, 8, 1, 17},
	} {
		if n, ok := view.Offset(x.l, x.id, x.at); n != x.n || !ok {
			t.Errorf("Offset(%v, %d, %d): %d, %v, not %d", x.l, x.id, x.at, n, ok, x.n)
		}
	}
}

// P8.1, R2: Offset of an Id that isn't there: 0 and false, wherever the pieces end.
func TestP8_1OffsetOfNone(t *testing.T) {
	for _, l := range [][]api.Piece{nil, {}, pieces(), {{Id: 6, Label: 4, N: 4, Open: true}}} {
		for _, id := range []int{0, 4, -1, math.MinInt, math.MaxInt} {
			for _, at := range edges() {
				if n, ok := view.Offset(l, id, at); n != 0 || ok {
					t.Errorf("Offset(%v, %d, %d): %d, %v", l, id, at, n, ok)
				}
			}
		}
	}
}

// lists: each list of up to most of these kinds of pieces, each with the Id that its place gives.
func lists(kinds []api.Piece, most int, id func(i int) int, see func([]api.Piece)) {
	var grow func(l []api.Piece)
	grow = func(l []api.Piece) {
		see(l)
		if len(l) == most {
			return
		}
		for _, p := range kinds {
			p.Id = id(len(l))
			grow(append(slices.Clone(l), p))
		}
	}
	grow(nil)
}

// kinds: of pieces, of few letters.
func kinds() []api.Piece {
	return []api.Piece{{Open: true}, {N: 1, Open: true}, {N: 3, Open: true}, {}, {N: 2, Label: 1}}
}

// P8.1: each list of up to five pieces, of unlike Ids and of like ones, at each offset, Id and place.
func TestP8_1AllSmall(t *testing.T) {
	for _, id := range []func(i int) int{func(i int) int { return 4 - i }, func(i int) int { return i % 2 }} {
		lists(kinds(), 5, id, func(l []api.Piece) {
			for n := -1; n <= modelWidth(l)+1; n++ {
				is(t, l, n, n%6, n/2)
			}
			for id := -1; id < 5; id++ {
				for at := -1; at < 5; at++ {
					is(t, l, 0, id, at)
				}
			}
		})
	}
}

// wide: as many pieces as may be asked, each as long as it may be, some not open.
func wide() []api.Piece {
	var l []api.Piece
	for i := range 1000 {
		l = append(l, api.Piece{Id: i, N: 1 << 40, Open: i%5 != 3})
	}
	return l
}

// P8.1, P8.2: at the bounds of what is asked.
func TestP8_1Wide(t *testing.T) {
	l := wide()
	offsets := append(edges(), modelWidth(l)-1, modelWidth(l), modelWidth(l)+1)
	for _, i := range []int{0, 1, 2, 3, 4, 500, 998, 999} {
		start, end := bounds(l, i)
		offsets = append(offsets, start, start+1, end-1, end, end+1)
		for _, at := range append(edges(), 1<<40-1) {
			is(t, l, at, i, at)
		}
	}
	for _, n := range offsets {
		is(t, l, n, n, n)
		if n >= 0 && n <= modelWidth(l) {
			back(t, l, n)
		}
	}
}

// P8.1: Look: each segment is one piece, with the letters (not the bytes) of those that are open.
func TestP8_1Look(t *testing.T) {
	got := view.Look(must(t, sample()), of(0, 2))
	want := []api.Piece{{Id: 4, Label: 2, N: 4, Open: true}, {Id: 9, Label: 1}, {Id: 0, Label: 2, Open: true}, {Id: -3, N: 3, Open: true}, {Id: 7, Label: 1}}
	if !slices.Equal(got, want) {
		t.Error(got)
	}
	long := strings.Repeat("aä€\U0001F600", 200)
	far := []api.Seg{{Id: math.MaxInt, Label: math.MinInt, Text: long}, {Id: math.MinInt, Label: math.MaxInt, Text: "\x00\x00"}}
	for _, open := range append(opens(), of(math.MinInt), of(math.MaxInt)) {
		for _, l := range [][]api.Seg{nil, {}, sample(), sample()[1:2], sample()[2:3], far, {{Id: 1, Text: "e\u0301"}, {Id: 2, Text: "\uFFFD"}}} {
			looks(t, l, open)
		}
	}
}

// P8.1: of a sheet without segments, the zero value too, there is nothing to be seen.
func TestP8_1NoSegments(t *testing.T) {
	for _, s := range []sheet.Sheet{{}, must(t, nil), sheet.Sheet{}.Fork(3, true)} {
		if l := view.Look(s, all); len(l) != 0 {
			t.Error(l)
		}
		for _, from := range edges() {
			if l := view.Runs(s, all, from, 5); len(l) != 0 {
				t.Error(from, l)
			}
		}
	}
}

// P8.1: a frozen sheet is seen like another one.
func TestP8_1Frozen(t *testing.T) {
	s := must(t, sample())
	f, ok := sheet.Load(true, sample())
	if !ok {
		t.Fatal("Load")
	}
	for _, open := range opens() {
		if !slices.Equal(view.Look(s, open), view.Look(f, open)) || !slices.Equal(view.Runs(s, open, 1, 9), view.Runs(f, open, 1, 9)) {
			t.Error(view.Look(f, open), view.Runs(f, open, 1, 9))
		}
	}
}

// P8.1, ways: the function is asked, and of the labels of the segments alone; what it says of a label is so of each segment of it.
func TestP8_1OpenIsAsked(t *testing.T) {
	var asked []int
	open := func(label int) bool {
		asked = append(asked, label)
		return label == 2
	}
	labels := func() []int {
		slices.Sort(asked)
		l := slices.Compact(asked)
		asked = nil
		return l
	}
	s := must(t, sample())
	if l := view.Look(s, open); !l[0].Open || l[1].Open || !l[2].Open || l[3].Open || l[4].Open {
		t.Error(l)
	}
	if l := labels(); !slices.Equal(l, []int{0, 1, 2}) {
		t.Error(l)
	}
	if l := view.Runs(s, open, 3, 3); !slices.Equal(l, []api.Run{{Id: 4, Label: 2, Open: true, Text: "\U0001F600"}, {Id: 9, Label: 1}, {Id: -3}}) {
		t.Error(l)
	}
	if l := labels(); !slices.Equal(l, []int{0, 1, 2}) {
		t.Error(l)
	}
	view.Runs(must(t, sample()[:1]), open, 0, 9)
	if l := labels(); !slices.Equal(l, []int{2}) {
		t.Error(l)
	}
}

// P8.1: Runs of the sample: pieces of which no letter is in the range have none.
func TestP8_1Runs(t *testing.T) {
	s := must(t, sample())
	a := func(text string) api.Run { return api.Run{Id: 4, Label: 2, Open: true, Text: text} }
	x := func(text string) api.Run { return api.Run{Id: -3, Open: true, Text: text} }
	no, not := api.Run{Id: 9, Label: 1}, api.Run{Id: 7, Label: 1}
	for _, c := range []struct {
		from, n int
		want    []api.Run
	}{
		{0, 9, []api.Run{a("aä€\U0001F600"), no, x("xyz"), not}}, {0, 8, []api.Run{a("aä€\U0001F600"), no, x("xyz")}}, {-9, 100, []api.Run{a("aä€\U0001F600"), no, x("xyz"), not}},
		{0, 1, []api.Run{a("a")}}, {1, 2, []api.Run{a("ä€")}}, {3, 1, []api.Run{a("\U0001F600")}}, {0, 4, []api.Run{a("aä€\U0001F600")}},
		{-1, 1, []api.Run{a("a")}}, {math.MinInt, 2, []api.Run{a("aä")}},
		{4, 1, []api.Run{no}}, {3, 2, []api.Run{a("\U0001F600"), no}}, {4, 2, []api.Run{no, x("x")}}, {3, 3, []api.Run{a("\U0001F600"), no, x("x")}},
		{5, 1, []api.Run{x("x")}}, {6, 1, []api.Run{x("y")}}, {7, 1, []api.Run{x("z")}}, {7, 2, []api.Run{x("z"), not}}, {5, 3, []api.Run{x("xyz")}},
		{8, 1, []api.Run{not}}, {8, 200, []api.Run{not}}, {8, math.MaxInt, []api.Run{not}}, {9, 1, nil}, {10, 5, nil}, {math.MaxInt, math.MaxInt, nil}, {math.MaxInt, 1, nil},
		{0, 0, nil}, {4, 0, nil}, {0, -1, nil}, {4, -5, nil}, {8, math.MinInt, nil}, {math.MinInt, math.MinInt, nil},
	} {
		if got := view.Runs(s, of(0, 2), c.from, c.n); !slices.Equal(got, c.want) {
			t.Errorf("Runs(%d, %d): %v, not %v", c.from, c.n, got, c.want)
		}
	}
}

// P8.1: no more than MaxRuns letters are answered, those that stand for what isn't open being among them.
func TestP8_1MaxRuns(t *testing.T) {
	long := strings.Repeat("€", 150)
	s := must(t, []api.Seg{{Id: 1, Text: long}, {Id: 2, Label: 1, Text: long}, {Id: 3, Text: long}, {Id: 4, Text: long}})
	for _, c := range []struct {
		from, n int
		letters []int
	}{
		{0, 199, []int{150, 0, 48}}, {0, 200, []int{150, 0, 49}}, {0, 201, []int{150, 0, 49}}, {0, math.MaxInt, []int{150, 0, 49}},
		{100, 200, []int{50, 0, 149}}, {101, 201, []int{49, 0, 150}}, {102, 300, []int{48, 0, 150, 1}}, {151, 200, []int{150, 50}}, {151, 1 << 40, []int{150, 50}},
		{300, 200, []int{1, 150}}, {251, 200, []int{50, 150}}, {252, math.MaxInt, []int{49, 150}}, {450, 201, []int{1}}, {451, 201, nil},
	} {
		got := view.Runs(s, of(0), c.from, c.n)
		var letters []int
		for _, r := range got {
			letters = append(letters, len([]rune(r.Text)))
		}
		if !slices.Equal(letters, c.letters) {
			t.Errorf("Runs(%d, %d): %v, not %v", c.from, c.n, letters, c.letters)
		}
	}
	var many []api.Seg
	for id := range 300 {
		many = append(many, api.Seg{Id: id, Label: id % 3, Text: "x"})
	}
	for _, open := range opens() {
		for _, from := range []int{0, 1, 99, 100, 101, 299} {
			if got := shows(t, many, open, from, 250); len(got) != min(200, 300-from) {
				t.Error(from, len(got))
			}
		}
	}
}

// small: each sheet of up to most segments of these texts and of labels 0 and 1.
func small(most int, see func([]api.Seg)) {
	var grow func(l []api.Seg)
	grow = func(l []api.Seg) {
		see(l)
		if len(l) == most {
			return
		}
		for label := range 2 {
			for _, text := range []string{"", "ä", "x€", "abc"} {
				grow(append(slices.Clone(l), api.Seg{Id: 10 - len(l), Label: label, Text: text}))
			}
		}
	}
	grow(nil)
}

// P8.1, P8.2: each sheet of up to three small segments, of which one label is open, or both, or none, and each range of it.
func TestP8_1SmallSheets(t *testing.T) {
	small(3, func(l []api.Seg) {
		for _, open := range []func(int) bool{of(0), all, none} {
			n := view.Width(looks(t, l, open))
			for from := -1; from <= n+1; from++ {
				for many := -1; many <= n+1; many++ {
					shows(t, l, open, from, many)
				}
			}
		}
	})
}

// drawn: segments with texts of up to 300 letters, of three labels.
func drawn(r *rand.Rand) []api.Seg {
	var l []api.Seg
	for id := range r.Intn(7) {
		n := []int{0, 1, 3, 60, 300}[r.Intn(5)]
		var text []rune
		for range r.Intn(n + 1) {
			text = append(text, []rune{'a', 0, 'ä', '€', '\U0001F600'}[r.Intn(5)])
		}
		l = append(l, api.Seg{Id: 100 - id*id, Label: r.Intn(3), Text: string(text)})
	}
	return l
}

// P8.1, P8.2: sheets that are drawn, with long texts.
func TestP8_1Drawn(t *testing.T) {
	r := rand.New(rand.NewSource(1))
	for range 400 {
		l := drawn(r)
		for _, open := range opens() {
			ps := looks(t, l, open)
			n := view.Width(ps)
			for range 20 {
				shows(t, l, open, r.Intn(n+4)-2, r.Intn(300)-2)
				is(t, ps, r.Intn(n+4)-2, 100-r.Intn(7), r.Intn(300)-2)
				if len(ps) > 0 {
					back(t, ps, r.Intn(n+1))
				}
			}
		}
	}
}

// P8.1: segments that were edited, so that their ropes lie in many parts, are seen as those of their texts.
func TestP8_1Edited(t *testing.T) {
	l := sample()
	s := must(t, l)
	word, _ := rope.New("ö!€")
	for i := range 60 {
		p := &l[[]int{0, 3, 1}[i%3]]
		x, _ := s.Find(p.Id)
		x, ok := x.Insert(i/3, word, i+20, api.MaxQuota)
		if !ok {
			t.Fatal("no room")
		}
		x, _ = x.Delete(i/2, 1, 0)
		s = s.Set(x)
		p.Text = x.Plain().Text
		for _, open := range opens() {
			if got := view.Look(s, open); !slices.Equal(got, modelLook(l, open)) {
				t.Fatal(got)
			}
			for _, from := range []int{0, 1, i, 2 * i} {
				if got, want := view.Runs(s, open, from, i+1), modelRuns(l, open, from, i+1); !slices.Equal(got, want) {
					t.Fatalf("Runs(%d, %d): %v, not %v", from, i+1, got, want)
				}
			}
		}
	}
}

// P8.1: Runs of letters one by one have, one behind the other, what Runs of them all has.
func TestP8_1OneByOne(t *testing.T) {
	for _, open := range opens() {
		l := sample()
		var joined []api.Run
		for at := range modelWidth(modelLook(l, open)) {
			one := shows(t, l, open, at, 1)
			if len(one) != 1 {
				t.Fatal(at, one)
			}
			if last := len(joined) - 1; last >= 0 && joined[last].Id == one[0].Id {
				joined[last].Text += one[0].Text
			} else {
				joined = append(joined, one[0])
			}
		}
		if got := shows(t, l, open, 0, 200); !slices.Equal(got, joined) {
			t.Error(got, joined)
		}
	}
}

// P8.2: of each list of up to five pieces of unlike Ids, from 0 to the width.
func TestP8_2AllSmall(t *testing.T) {
	lists(kinds(), 5, func(i int) int { return 7 - 3*i }, func(l []api.Piece) {
		if len(l) == 0 {
			return
		}
		for n := range view.Width(l) + 1 {
			back(t, l, n)
		}
	})
}

// P8.2: of what is seen of each sheet.
func TestP8_2Sheets(t *testing.T) {
	for _, open := range opens() {
		l := looks(t, sample(), open)
		for n := range view.Width(l) + 1 {
			back(t, l, n)
		}
	}
}

// P8.3: sheets that differ in the texts (and marks) of what isn't open look the same, and where something is open they don't.
func TestP8_3Hidden(t *testing.T) {
	r := rand.New(rand.NewSource(3))
	texts := []string{"", "x", "€", strings.Repeat("ä", 500), strings.Repeat("secret ", 100)}
	for range 300 {
		l := drawn(r)
		for _, open := range opens() {
			other := slices.Clone(l)
			for i := range other {
				if !open(other[i].Label) {
					other[i].Text = texts[r.Intn(len(texts))]
					other[i].Sites = []api.Site{{Mark: 1 + r.Intn(3), At: 0}}
				}
			}
			a, b := must(t, l), must(t, other)
			if !slices.Equal(view.Look(a, open), view.Look(b, open)) {
				t.Fatal("Look", l, other)
			}
			for range 10 {
				from, n := r.Intn(400)-2, r.Intn(220)-2
				if !slices.Equal(view.Runs(a, open, from, n), view.Runs(b, open, from, n)) {
					t.Fatal("Runs", from, n, l, other)
				}
			}
		}
	}
	seen := must(t, []api.Seg{{Id: 1, Text: "a"}})
	if view.Look(seen, all)[0].N != 1 || view.Runs(seen, all, 0, 9)[0].Text != "a" {
		t.Error("what is open isn't seen")
	}
}

// P8.3: what isn't open tells no N and no text, and is one letter, also where it has none.
func TestP8_3OneLetter(t *testing.T) {
	for _, text := range []string{"", "x", "€€", strings.Repeat("secret", 100)} {
		l := []api.Seg{{Id: 5, Label: 3, Text: text}, {Id: 6, Label: 4, Text: text}}
		want := []api.Piece{{Id: 5, Label: 3}, {Id: 6, Label: 4}}
		if got := view.Look(must(t, l), none); !slices.Equal(got, want) || view.Width(got) != 2 {
			t.Error(got)
		}
		if got := view.Runs(must(t, l), none, -1, 9); !slices.Equal(got, []api.Run{{Id: 5, Label: 3}, {Id: 6, Label: 4}}) {
			t.Error(got)
		}
		if got := view.Runs(must(t, l), none, 1, 1); !slices.Equal(got, []api.Run{{Id: 6, Label: 4}}) {
			t.Error(got)
		}
	}
}

// P0, R6: no number makes a call panic, or a sum wrap.
func TestP0AllNumbers(t *testing.T) {
	for _, l := range [][]api.Piece{nil, pieces(), wide(), {{Id: math.MinInt}, {Id: math.MaxInt, N: 1 << 40, Open: true}}} {
		for _, a := range edges() {
			for _, b := range edges() {
				is(t, l, a, b, a)
				is(t, l, b, 1, a)
			}
		}
	}
	long := []api.Seg{{Id: 1, Text: strings.Repeat("ä", 300)}, {Id: 2, Label: 1}, {Id: 3, Text: strings.Repeat("x", 300)}}
	for _, l := range [][]api.Seg{nil, sample(), long} {
		for _, from := range append(edges(), 300, 301, 600, 601, 602) {
			for _, n := range edges() {
				shows(t, l, of(0, 2), from, n)
				shows(t, l, all, from, n)
			}
		}
	}
}

// P0: pieces that aren't asked of are answered, too, though what isn't said.
func TestP0WrongPieces(t *testing.T) {
	for _, a := range edges() {
		for _, b := range edges() {
			l := []api.Piece{{Id: 1, N: a, Open: true}, {Id: 2, N: b}, {Id: 3, N: b, Open: true}, {Id: 4, N: a, Open: true}}
			view.Width(l)
			for _, n := range edges() {
				view.Address(l, n)
				view.Offset(l, 3, n)
				view.Offset(l, 9, n)
			}
		}
	}
	// Of what isn't open N plays no part, whatever it is.
	for _, n := range edges() {
		for offset := -1; offset < 4; offset++ {
			is(t, []api.Piece{{Id: 1, N: n}, {Id: 2, N: n}}, offset, 2, n)
		}
	}
}

// P0: where there is no function, or one that panics, nothing is said to be open.
func TestP0NoFunction(t *testing.T) {
	var nobody []bool
	for _, open := range []func(int) bool{
		nil,
		func(int) bool { panic("x") },
		func(int) bool { panic(errors.New("x")) },
		func(int) bool { panic(nil) },
		func(label int) bool { return nobody[label] },
	} {
		s := must(t, sample())
		if got := view.Look(s, open); !slices.Equal(got, modelLook(sample(), none)) {
			t.Error(got)
		}
		for _, from := range edges() {
			if got := view.Runs(s, open, from, 3); !slices.Equal(got, modelRuns(sample(), none, from, 3)) {
				t.Error(from, got)
			}
		}
		if len(view.Look(sheet.Sheet{}, open)) != 0 || len(view.Runs(sheet.Sheet{}, open, 0, 9)) != 0 {
			t.Error("of no segments")
		}
	}
	some := func(label int) bool {
		if label == 1 {
			panic(label)
		}
		return true
	}
	s := must(t, sample())
	if got := view.Look(s, some); !slices.Equal(got, modelLook(sample(), of(0, 2))) {
		t.Error(got)
	}
	if got := view.Runs(s, some, 1, 5); !slices.Equal(got, modelRuns(sample(), of(0, 2), 1, 5)) {
		t.Error(got)
	}
}

// P0: a sheet of very many segments.
func TestP0VeryMany(t *testing.T) {
	const n = 20000
	var l []api.Seg
	for id := range n {
		l = append(l, api.Seg{Id: id, Label: id % 3, Text: "€x"})
	}
	looks(t, l, of(0, 1))
	shows(t, l, of(0, 1), n, 300)
	shows(t, l, none, n-100, 300)
}

// R4: pieces that are handed in, and the room behind them, are not written to.
func TestR4PiecesStay(t *testing.T) {
	room := append(make([]api.Piece, 0, 9), append(pieces(), api.Piece{Id: 77})...)
	l := room[:3]
	for _, n := range edges() {
		is(t, l, n, 2, n)
	}
	if !slices.Equal(room, append(pieces(), api.Piece{Id: 77})) {
		t.Error(room)
	}
	if rest := room[4:cap(room)]; !slices.Equal(rest, make([]api.Piece, len(rest))) {
		t.Error(rest)
	}
}

// R4: lists that are answered are new: what is written into them is seen nowhere; the sheet stays as it is.
func TestR4AnswersAreNew(t *testing.T) {
	s := must(t, sample())
	for _, open := range opens() {
		a, b := view.Look(s, open), view.Runs(s, open, 0, 9)
		for i := range a[:cap(a)] {
			a[:cap(a)][i] = api.Piece{Id: -9, N: -9}
		}
		for i := range b[:cap(b)] {
			b[:cap(b)][i] = api.Run{Id: -9, Text: "spoilt"}
		}
		if got := view.Look(s, open); !slices.Equal(got, modelLook(sample(), open)) {
			t.Error(got)
		}
		if got := view.Runs(s, open, 0, 9); !slices.Equal(got, modelRuns(sample(), open, 0, 9)) {
			t.Error(got)
		}
	}
	for i, p := range s.Plain() {
		if w := sample()[i]; p.Id != w.Id || p.Label != w.Label || p.Text != w.Text || !slices.Equal(p.Spans, w.Spans) || !slices.Equal(p.Sites, w.Sites) {
			t.Error(p)
		}
	}
}

// R7: what was asked ahead plays no part: not of another function, not of another range.
func TestR7(t *testing.T) {
	s := must(t, sample())
	for _, open := range opens() {
		want := view.Runs(s, open, 2, 4)
		for _, other := range opens() {
			view.Look(s, other)
			view.Runs(s, other, 0, 200)
			view.Runs(sheet.Sheet{}, other, 5, 5)
			if got := view.Runs(s, open, 2, 4); !slices.Equal(got, want) {
				t.Error(got, want)
			}
		}
	}
}
