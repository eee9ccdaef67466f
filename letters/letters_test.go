package letters_test

import (
	"math"
	"slices"
	"strings"
	"testing"

	"chancel/letters"
)

// letter: one letter of a text as the chapter's words tell it, read without any help of the library.
type letter struct {
	code  rune
	bytes string
}

// first reads the letter that s begins with; false, if no right one stands there.
func first(s string) (letter, bool) {
	size, code, least := 0, rune(0), rune(0)
	switch b := s[0]; {
	case b < 0x80:
		return letter{rune(b), s[:1]}, true
	case b>>5 == 0b110:
		size, code, least = 2, rune(b&0x1F), 0x80
	case b>>4 == 0b1110:
		size, code, least = 3, rune(b&0x0F), 0x800
	case b>>3 == 0b11110:
		size, code, least = 4, rune(b&0x07), 0x10000
	default:
		return letter{}, false
	}
	if len(s) < size {
		return letter{}, false
	}
	for _, b := range []byte(s[1:size]) {
		if b>>6 != 0b10 {
			return letter{}, false
		}
		code = code<<6 | rune(b&0x3F)
	}
	if code < least || code > 0x10FFFF || code >= 0xD800 && code <= 0xDFFF {
		return letter{}, false
	}
	return letter{code, s[:size]}, true
}

// read: the letters of s, and whether s is right.
func read(s string) ([]letter, bool) {
	var l []letter
	right := true
	for s != "" {
		x, ok := first(s)
		if !ok {
			x, right = letter{0xFFFD, s[:1]}, false
		}
		l = append(l, x)
		s = s[len(x.bytes):]
	}
	return l, right
}

func join(l []letter) string {
	var b strings.Builder
	for _, x := range l {
		b.WriteString(x.bytes)
	}
	return b.String()
}

func codes(l []letter) []rune {
	var r []rune
	for _, x := range l {
		r = append(r, x.code)
	}
	return r
}

func clamp(at, n int) int {
	return min(max(at, 0), n)
}

// checkWhole asks of s what takes no place.
func checkWhole(t *testing.T, s string) {
	t.Helper()
	l, right := read(s)
	if got := letters.Right(s); got != right {
		t.Errorf("Right(%q): %v", s, got)
	}
	if got := letters.Count(s); got != len(l) {
		t.Errorf("Count(%q): %d, not %d", s, got, len(l))
	}
	if got := letters.Letters(s); !slices.Equal(got, codes(l)) {
		t.Errorf("Letters(%q): %x, not %x", s, got, codes(l))
	}
}

// checkPlaces asks of s what takes places: each of them, and some that must be clamped.
func checkPlaces(t *testing.T, s string) {
	t.Helper()
	l, _ := read(s)
	places := []int{math.MinInt, -2, -1}
	for i := range len(l) + 3 {
		places = append(places, i)
	}
	places = append(places, math.MaxInt)
	for _, at := range places {
		head := join(l[:clamp(at, len(l))])
		if got := letters.Byte(s, at); got != len(head) {
			t.Errorf("Byte(%q, %d): %d, not %d", s, at, got, len(head))
		}
		for _, x := range []string{"", "x", "ä€", "\xff", "\xac"} {
			if got, want := letters.Put(s, at, x), head+x+s[len(head):]; got != want {
				t.Errorf("Put(%q, %d, %q): %q, not %q", s, at, x, got, want)
			}
		}
		for _, to := range places {
			want := ""
			if a, b := clamp(at, len(l)), clamp(to, len(l)); a < b {
				want = join(l[a:b])
			}
			if got := letters.Cut(s, at, to); got != want {
				t.Errorf("Cut(%q, %d, %d): %q, not %q", s, at, to, got, want)
			}
		}
	}
}

// rightTexts: with letters of one to four bytes, and those at the edges of what may be a letter.
func rightTexts() []string {
	return []string{
		"", "a", "abc", "aä€", "aä€\U0001F600z", "\x00\x7f", "\u0080\u07ff\u0800\uffff\U00010000\U0010ffff",
		"\ud7ff\ue000", "\ufffd", "a\ufffdb", "e\u0301", "\ufeffx", "line\nline\r\n", strings.Repeat("ß", 70),
	}
}

// wrongTexts: texts that aren't right, each in a way of its own.
func wrongTexts() []string {
	return []string{
		"\xff", "\x80", "\xbf", "\xc3", "\xe2\x82", "\xf0\x9f\x98", // no letter, or not all of one
		"\xc0\x80", "\xc1\xbf", "\xe0\x9f\xbf", "\xf0\x8f\xbf\xbf", // more bytes than need be
		"\xed\xa0\x80", "\xed\xbf\xbf", // between D7FF and E000
		"\xf4\x90\x80\x80", "\xf5\x80\x80\x80", "\xf8\x88\x80\x80\x80", // above 10FFFF
		"a\xffb", "ä\x80€", "€\xe2\x82", "\xe2\x82€", "\xef\xbf\xbd\xff", "\xef\xbf", "\xc3\xc3\xa4",
	}
}

// P1.1: the examples of the chapter, and each call by itself.
func TestP1_1Examples(t *testing.T) {
	if n := letters.Count("aä€"); n != 3 {
		t.Error("Count:", n)
	}
	if n := letters.Byte("aä€", 2); n != 3 {
		t.Error("Byte:", n)
	}
	if s := letters.Cut("aä€", 1, 9); s != "ä€" {
		t.Error("Cut:", s)
	}
	if letters.Right("\xff") || letters.Count("\xff") != 1 {
		t.Error("of a byte that is no letter:", letters.Right("\xff"), letters.Count("\xff"))
	}
	if s := letters.Put("aä€", 2, "xy"); s != "aäxy€" {
		t.Error("Put:", s)
	}
	if l := letters.Letters("aä€\U0001F600"); !slices.Equal(l, []rune{0x61, 0xE4, 0x20AC, 0x1F600}) {
		t.Error("Letters:", l)
	}
}

// P1.1: of right texts.
func TestP1_1RightTexts(t *testing.T) {
	for _, s := range rightTexts() {
		if !letters.Right(s) {
			t.Errorf("Right(%q): false", s)
		}
		checkWhole(t, s)
		checkPlaces(t, s)
	}
}

// P1.1: of texts that aren't right, each byte that belongs to no letter is one letter, FFFD.
func TestP1_1WrongTexts(t *testing.T) {
	for _, s := range wrongTexts() {
		if letters.Right(s) {
			t.Errorf("Right(%q): true", s)
		}
		checkWhole(t, s)
		checkPlaces(t, s)
	}
	if l := letters.Letters("€\xe2\x82\ufffd"); !slices.Equal(l, []rune{0x20AC, 0xFFFD, 0xFFFD, 0xFFFD}) {
		t.Errorf("%x", l)
	}
}

// P1.1: the empty text has no letters, and one place.
func TestP1_1EmptyText(t *testing.T) {
	if !letters.Right("") || letters.Count("") != 0 || len(letters.Letters("")) != 0 {
		t.Error(letters.Right(""), letters.Count(""), letters.Letters(""))
	}
	for _, at := range []int{math.MinInt, -1, 0, 1, math.MaxInt} {
		if letters.Byte("", at) != 0 || letters.Cut("", at, math.MaxInt) != "" || letters.Put("", at, "ä") != "ä" || letters.Put("ä", at, "") != "ä" {
			t.Error(at, letters.Byte("", at), letters.Cut("", at, math.MaxInt), letters.Put("", at, "ä"), letters.Put("ä", at, ""))
		}
	}
}

// P1.1: every code point is a letter by itself, or its bytes are none.
func TestP1_1AllCodePoints(t *testing.T) {
	for c := rune(0); c <= 0x110000; c++ {
		s := string([]byte{0xF0 | byte(c>>18), 0x80 | byte(c>>12)&0x3F, 0x80 | byte(c>>6)&0x3F, 0x80 | byte(c)&0x3F})
		switch {
		case c < 0x80:
			s = string([]byte{byte(c)})
		case c < 0x800:
			s = string([]byte{0xC0 | byte(c>>6), 0x80 | byte(c)&0x3F})
		case c < 0x10000:
			s = string([]byte{0xE0 | byte(c>>12), 0x80 | byte(c>>6)&0x3F, 0x80 | byte(c)&0x3F})
		}
		checkWhole(t, s)
		want := c < 0xD800 || c > 0xDFFF && c < 0x110000
		if letters.Right(s) != want {
			t.Errorf("Right of code point %x: not %v", c, want)
		}
	}
}

// P1.1: all texts of up to four of the bytes at which what is a letter turns.
func TestP1_1AllShortTexts(t *testing.T) {
	edges := []byte{0x00, 0x7F, 0x80, 0x8F, 0x90, 0x9F, 0xA0, 0xBD, 0xBF, 0xC0, 0xC1, 0xC2, 0xDF, 0xE0, 0xE1, 0xED, 0xEF, 0xF0, 0xF1, 0xF4, 0xF5, 0xFF}
	last := []string{""}
	for n := range 4 {
		var longer []string
		for _, s := range last {
			for _, b := range edges {
				longer = append(longer, s+string([]byte{b}))
			}
		}
		for _, s := range longer {
			checkWhole(t, s)
			if n < 2 {
				checkPlaces(t, s)
			}
		}
		last = longer
	}
}

// P1.2: what is put at a place is cut there again, and what was there stays around it.
func TestP1_2PutIsCutAgain(t *testing.T) {
	for _, s := range rightTexts() {
		n := letters.Count(s)
		for _, x := range rightTexts() {
			k := letters.Count(x)
			for at := -1; at <= n+1; at++ {
				p, c := letters.Put(s, at, x), clamp(at, n)
				if got := letters.Cut(p, c, c+k); got != x {
					t.Errorf("Put(%q, %d, %q): cut again %q", s, at, x, got)
				}
				if letters.Cut(p, 0, c)+letters.Cut(p, c+k, n+k) != s || letters.Count(p) != n+k || !letters.Right(p) {
					t.Errorf("Put(%q, %d, %q): %q", s, at, x, p)
				}
			}
		}
	}
}

// P1.2: Cut of two parts that meet, one behind the other, is Cut of both.
func TestP1_2PartsMeet(t *testing.T) {
	for _, s := range rightTexts() {
		n := letters.Count(s)
		for a := -1; a <= n+1; a++ {
			for b := a; b <= n+1; b++ {
				for c := b; c <= n+1; c++ {
					if x, y, both := letters.Cut(s, a, b), letters.Cut(s, b, c), letters.Cut(s, a, c); x+y != both || !letters.Right(x) {
						t.Fatalf("Cut(%q) at %d, %d, %d: %q, %q, not %q", s, a, b, c, x, y, both)
					}
				}
			}
		}
		if got := letters.Cut(s, 0, n); got != s {
			t.Errorf("Cut of all of %q: %q", s, got)
		}
	}
}

// P0: no number and no text makes a call panic, or sum what could wrap.
func TestP0AllArguments(t *testing.T) {
	numbers := []int{math.MinInt, math.MinInt + 1, -1, 0, 1, math.MaxInt - 1, math.MaxInt}
	for _, s := range append(rightTexts(), wrongTexts()...) {
		for _, a := range numbers {
			for _, b := range numbers {
				n := letters.Count(s)
				want := ""
				if clamp(a, n) < clamp(b, n) {
					want = s[letters.Byte(s, a):letters.Byte(s, b)]
				}
				if got := letters.Cut(s, a, b); got != want {
					t.Errorf("Cut(%q, %d, %d): %q", s, a, b, got)
				}
			}
		}
	}
}

// R4: each answer of Letters is new memory.
func TestR4LettersAreNew(t *testing.T) {
	s := "aä€"
	l := letters.Letters(s)
	for i := range l {
		l[i] = 'x'
	}
	if again := letters.Letters(s); !slices.Equal(again, []rune{0x61, 0xE4, 0x20AC}) {
		t.Errorf("%x", again)
	}
}
