package rope_test

import (
	"math"
	"slices"
	"strings"
	"testing"

	"chancel/letters"
	"chancel/rope"
)

// must: the rope of a right text.
func must(t *testing.T, s string) *rope.Rope {
	t.Helper()
	r, ok := rope.New(s)
	if !ok {
		t.Fatalf("New(%q): false", s)
	}
	return r
}

// check asks of r all that is told without a place, s being its text.
func check(t *testing.T, r *rope.Rope, s string) {
	t.Helper()
	if got := r.Text(); got != s {
		t.Fatalf("Text: %q, not %q", got, s)
	}
	if r.Len() != letters.Count(s) || r.Bytes() != len(s) {
		t.Fatalf("of %q: Len %d, Bytes %d", s, r.Len(), r.Bytes())
	}
	l := r.Parts()
	if strings.Join(l, "") != s {
		t.Fatalf("Parts of %q: %q", s, l)
	}
	for _, part := range l {
		if part == "" || len(part) > 64 || !letters.Right(part) {
			t.Fatalf("of %q: part %q", s, part)
		}
	}
	checkHeight(t, r.Height(), len(l))
}

// checkHeight: a tree whose sides' heights differ by 1 at most has, at each height, no fewer leaves and no more than these.
func checkHeight(t *testing.T, height, leaves int) {
	t.Helper()
	if leaves == 0 {
		if height != 0 {
			t.Fatal("height of an empty one:", height)
		}
		return
	}
	least, next, most := 1, 2, 1
	for range height {
		least, next, most = next, least+next, 2*most
	}
	if height < 0 || leaves < least || leaves > most {
		t.Fatalf("height %d of %d leaves", height, leaves)
	}
}

func drop(s string, from, to int) string {
	if to <= from {
		return s
	}
	return letters.Cut(s, 0, from) + letters.Cut(s, to, letters.Count(s))
}

// texts: with letters of one to four bytes, and lengths about those of one part and more.
func texts() []string {
	l := []string{"", "a", "abc", "aä€\U0001F600z", "\x00", "\ufffd", "e\u0301"}
	for _, n := range []int{60, 61, 62, 63, 64, 65, 127, 128, 129, 1000} {
		for _, letter := range []string{"x", "ä", "€", "\U0001F600"} {
			l = append(l, strings.Repeat("y", n%4)+strings.Repeat(letter, n/len(letter))+"z")
		}
	}
	return append(l, strings.Repeat("aä€\U0001F600", 50), strings.Repeat("x", 64), strings.Repeat("\U0001F600", 16), strings.Repeat("€", 21)+"\U0001F600")
}

// P2.1: the examples of the chapter.
func TestP2_1Examples(t *testing.T) {
	a := must(t, "abc")
	b := a.Put(1, must(t, "xy"))
	c := b.Drop(0, 2)
	check(t, a, "abc")
	check(t, b, "axybc")
	check(t, c, "ybc")
}

// P2.1: of each text there is a rope, and of one that isn't right there is none.
func TestP2_1New(t *testing.T) {
	for _, s := range texts() {
		check(t, must(t, s), s)
	}
	if r := must(t, ""); r != nil {
		t.Error("of the empty text:", r.Text())
	}
	long := strings.Repeat("€", 1000)
	for _, s := range []string{"\xff", "\xc3", "\xe2\x82", "\xed\xa0\x80", "\xc0\x80", "\xf4\x90\x80\x80", "abc\x80", long + "\xff", "\xff" + long, long[:1], long[:2999], long[1:]} {
		if r, ok := rope.New(s); r != nil || ok {
			t.Errorf("New(%q): %q, %v", s, r.Text(), ok)
		}
	}
}

// places: about each end of a text of n letters, about those of its parts, and out of its range.
func places(n int) []int {
	l := []int{math.MinInt, math.MinInt + 1, -1, math.MaxInt - 1, math.MaxInt}
	for i := 0; i <= n+2; i++ {
		if i < 4 || i > n-4 || i%16 == 0 || i%21 == 0 {
			l = append(l, i)
		}
	}
	return l
}

// P2.1: Cut, Put and Drop at each kind of place are those of the text.
func TestP2_1Places(t *testing.T) {
	put := []string{"", "x", "ä€", strings.Repeat("\U0001F600", 20)}
	for _, s := range texts() {
		r := must(t, s)
		at := places(r.Len())
		for _, from := range at {
			for _, to := range at {
				check(t, r.Cut(from, to), letters.Cut(s, from, to))
				check(t, r.Drop(from, to), drop(s, from, to))
			}
			for _, x := range put {
				check(t, r.Put(from, must(t, x)), letters.Put(s, from, x))
			}
		}
		check(t, r, s)
	}
}

// P2.1: Join of each two.
func TestP2_1Join(t *testing.T) {
	for _, s := range texts() {
		for _, x := range texts() {
			a, b := must(t, s), must(t, x)
			check(t, rope.Join(a, b), s+x)
			check(t, a, s)
			check(t, b, x)
		}
	}
}

// P2.1: a nil rope stands for the empty text, as receiver and as argument.
func TestP2_1Nil(t *testing.T) {
	var none *rope.Rope
	a := must(t, "aä€")
	check(t, none, "")
	if rope.Join(none, none) != nil || len(none.Parts()) != 0 {
		t.Error("Join of two empty ones isn't nil, or there are parts of it:", none.Parts())
	}
	check(t, rope.Join(none, a), "aä€")
	check(t, rope.Join(a, none), "aä€")
	for _, at := range []int{math.MinInt, -1, 0, 1, math.MaxInt} {
		check(t, none.Put(at, a), "aä€")
		check(t, none.Put(at, none), "")
		check(t, a.Put(at, none), "aä€")
		check(t, none.Cut(at, 5), "")
		check(t, none.Drop(at, 5), "")
		if a.Cut(at, at) != nil {
			t.Error("Cut of nothing isn't nil:", at)
		}
	}
	if a.Drop(0, 3) != nil || a.Drop(math.MinInt, math.MaxInt) != nil {
		t.Error("Drop of all isn't nil")
	}
}

// dice: numbers in no plain order, the same in each run.
type dice uint64

func (d *dice) below(n int) int {
	*d = *d*6364136223846793005 + 1442695040888963407
	return int(uint64(*d)>>33) % n
}

// known: a rope, and the text it must stand for at all times.
type known struct {
	r *rope.Rope
	s string
}

// P2.1: many edits, one on top of another, are those of the text; no rope that was there changes.
func TestP2_1ManyEdits(t *testing.T) {
	for seed := range 20 {
		d := dice(seed)
		all := []known{{nil, ""}}
		for _, s := range texts() {
			all = append(all, known{must(t, s), s})
		}
		for range 400 {
			a, b := all[d.below(len(all))], all[d.below(len(all))]
			n := a.r.Len()
			from, to := d.below(n+6)-3, d.below(n+6)-3
			switch d.below(4) {
			case 0:
				a = known{a.r.Cut(from, to), letters.Cut(a.s, from, to)}
			case 1:
				a = known{a.r.Put(from, b.r), letters.Put(a.s, from, b.s)}
			case 2:
				a = known{a.r.Drop(from, to), drop(a.s, from, to)}
			case 3:
				a = known{rope.Join(a.r, b.r), a.s + b.s}
			}
			check(t, a.r, a.s)
			if len(a.s) < 10000 {
				all = append(all, a)
			}
		}
		for _, a := range all {
			check(t, a.r, a.s)
		}
	}
}

// P2.1: a rope is put into itself, and joined to itself.
func TestP2_1Itself(t *testing.T) {
	s := strings.Repeat("aä€\U0001F600", 3)
	r := must(t, s)
	for i := range 8 {
		at := i*5 + 1
		r, s = r.Put(at, r), letters.Put(s, at, s)
		check(t, r, s)
		r, s = rope.Join(r, r), s+s
		r, s = r.Cut(at, 300), letters.Cut(s, at, 300)
		check(t, r, s)
	}
}

// P2.2: a text that is put together letter by letter, at its end, its beginning or its middle, lies in a tree that is no higher than one of its length must be.
func TestP2_2LetterByLetter(t *testing.T) {
	const n = 5000
	for _, place := range []func(i int) int{
		func(i int) int { return i },
		func(i int) int { return 0 },
		func(i int) int { return i / 2 },
		func(i int) int { return i * 7919 % (i + 1) },
	} {
		var r *rope.Rope
		s := ""
		for i := range n {
			x := string(rune('a' + i%26))
			if i%10 == 0 {
				x = "€"
			}
			r, s = r.Put(place(i), must(t, x)), letters.Put(s, place(i), x)
		}
		check(t, r, s)
		if r.Height() > 14 {
			t.Error("height", r.Height())
		}
		for i := range n {
			r, s = r.Drop(place(n-1-i), place(n-1-i)+1), drop(s, place(n-1-i), place(n-1-i)+1)
			if i%500 == 0 {
				check(t, r, s)
			}
		}
		check(t, r, "")
	}
}

// P2.2: parts are filled letter by letter: none is cut through, and none has more than 64 bytes.
func TestP2_2PartsAtTheEdge(t *testing.T) {
	for _, x := range []struct {
		s     string
		parts int
	}{
		{"", 0}, {"a", 1},
		{strings.Repeat("x", 64), 1}, {strings.Repeat("x", 65), 2},
		{strings.Repeat("€", 21), 1}, {strings.Repeat("€", 22), 2},
		{strings.Repeat("x", 63) + "ä", 2}, {strings.Repeat("x", 62) + "ä", 1},
		{strings.Repeat("\U0001F600", 16), 1}, {strings.Repeat("\U0001F600", 17), 2},
	} {
		r := must(t, x.s)
		check(t, r, x.s)
		if len(r.Parts()) != x.parts || r.Height() != max(x.parts-1, 0) {
			t.Errorf("of %q: height %d, parts %q", x.s, r.Height(), r.Parts())
		}
	}
}

// P0: no number makes a call panic, or sum what could wrap.
func TestP0AllArguments(t *testing.T) {
	numbers := []int{math.MinInt, math.MinInt + 1, -1, 0, 1, math.MaxInt - 1, math.MaxInt}
	s := strings.Repeat("aä€", 40)
	r, x := must(t, s), must(t, "xy")
	for _, a := range numbers {
		check(t, r.Put(a, x), letters.Put(s, a, "xy"))
		for _, b := range numbers {
			check(t, r.Cut(a, b), letters.Cut(s, a, b))
			check(t, r.Drop(a, b), drop(s, a, b))
		}
	}
	// What such a one answers isn't said, but it must answer.
	bare := new(rope.Rope)
	for _, a := range []*rope.Rope{nil, bare, r} {
		for _, b := range []*rope.Rope{nil, bare, r} {
			j := rope.Join(a, b.Put(1, a)).Drop(0, 1).Cut(-1, 9)
			if len(j.Text()) != j.Bytes() || len(j.Parts()) < j.Height() || j.Len() > 9 {
				t.Error(j.Text(), j.Bytes())
			}
		}
	}
}

// R4: each answer of Parts is new memory.
func TestR4PartsAreNew(t *testing.T) {
	s := strings.Repeat("aä€", 40)
	r := must(t, s)
	l := r.Parts()
	again := slices.Clone(l)
	for i := range l {
		l[i] = "x"
	}
	check(t, r, s)
	if !slices.Equal(r.Parts(), again) {
		t.Error(r.Parts())
	}
}
