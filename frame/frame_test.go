package frame_test

import (
	"math"
	"math/rand"
	"slices"
	"strings"
	"testing"

	"chancel/frame"
)

// P12.1: the examples of the chapter.
func TestP12_1Examples(t *testing.T) {
	f, ok := frame.Wrap("ab")
	if f != "\x00\x02ab" || !ok {
		t.Fatalf("%q, %v", f, ok)
	}
	if l, rest, ok := frame.Split(f+"\x00", 600); !slices.Equal(l, []string{"ab"}) || rest != "\x00" || !ok {
		t.Errorf("%q, %q, %v", l, rest, ok)
	}
	if l, rest, ok := frame.Split("\x00\x00a", 600); len(l) != 0 || rest != "" || ok {
		t.Errorf("%q, %q, %v", l, rest, ok)
	}
}

// P12.1: frames written out, the higher byte of the length first.
func TestP12_1WrapWrittenOut(t *testing.T) {
	for n, want := range map[int]string{
		1: "\x00\x01", 127: "\x00\x7f", 128: "\x00\x80", 255: "\x00\xff", 256: "\x01\x00", 257: "\x01\x01", 600: "\x02\x58",
		32767: "\x7f\xff", 32768: "\x80\x00", 65280: "\xff\x00", 65534: "\xff\xfe", 65535: "\xff\xff",
	} {
		body := strings.Repeat("x", n)
		if got, ok := frame.Wrap(body); got != want+body || !ok {
			t.Errorf("%d bytes: %q, %v", n, short(got), ok)
		}
	}
}

// P12.1: a body has 1 to 65535 bytes; of others there is no frame.
func TestP12_1WrapOfEachLength(t *testing.T) {
	r := rand.New(rand.NewSource(1))
	long := drawnBytes(r, 3*65536)
	for n := 0; n <= 66000; n++ {
		// Each length up to some hundreds, then those about where a byte of the head turns over.
		if n > 900 && n < 64900 && (n+2)%256 > 4 {
			continue
		}
		if _, ok := wraps(t, long[:n]); ok != (n >= 1 && n <= 65535) {
			t.Fatal(n, ok)
		}
	}
	for _, n := range []int{2*65536 - 1, 2 * 65536, 2*65536 + 1, 3 * 65536} {
		if f, ok := wraps(t, long[:n]); f != "" || ok {
			t.Error(n, len(f), ok)
		}
	}
}

// P12.1: a body is bytes of any kind, letters or not.
func TestP12_1WrapOfEachByte(t *testing.T) {
	for i := range 256 {
		for j := range 256 {
			body := string([]byte{byte(i), byte(j)})
			f, ok := wraps(t, body)
			if f != "\x00\x02"+body || !ok {
				t.Fatalf("%q: %q, %v", body, f, ok)
			}
			if l, rest, ok := splits(t, f, 2); len(l) != 1 || l[0] != body || rest != "" || !ok {
				t.Fatalf("%q: %q, %q, %v", f, l, rest, ok)
			}
		}
	}
}

// P12.1: both bytes of a length are read, the higher first, and no length but 0 and those above most is wrong.
func TestP12_1SplitOfEachLength(t *testing.T) {
	body := strings.Repeat("x", 65535)
	for n := range 65536 {
		head := string([]byte{byte(n >> 8), byte(n)})
		for _, most := range []int{n - 1, n, n + 1, 600, 65535, math.MaxInt} {
			well := n > 0 && n <= most
			l, rest, ok := frame.Split(head, most)
			if len(l) != 0 || (rest == head) != well || (rest == "") == well || ok != well {
				t.Fatalf("length %d, most %d: %q, %q, %v", n, most, l, rest, ok)
			}
		}
		if n%97 != 0 && n < 65534 {
			continue
		}
		for _, most := range []int{n - 1, n, n + 1} {
			splits(t, head+body[:n], most)
			splits(t, head+body[:n]+"\x00\x01", most)
			splits(t, head+body[:max(n-1, 0)], most)
		}
	}
}

// P12.1: about the end of a frame, and of what comes behind it.
func TestP12_1SplitEnds(t *testing.T) {
	for _, x := range []struct {
		s    string
		l    []string
		rest string
		ok   bool
	}{
		{"", nil, "", true}, {"\x00", nil, "\x00", true}, {"\x01", nil, "\x01", true}, {"\xff", nil, "\xff", true},
		{"\x00\x01", nil, "\x00\x01", true}, {"\x00\x01a", []string{"a"}, "", true}, {"\x00\x01ab", []string{"a"}, "b", true},
		{"\x00\x03", nil, "\x00\x03", true}, {"\x00\x03a", nil, "\x00\x03a", true}, {"\x00\x03ab", nil, "\x00\x03ab", true},
		{"\x00\x03abc", []string{"abc"}, "", true}, {"\x00\x03abc\x00", []string{"abc"}, "\x00", true}, {"\x00\x03abc\x00\x02", []string{"abc"}, "\x00\x02", true},
		{"\x00\x03abc\x00\x02d", []string{"abc"}, "\x00\x02d", true}, {"\x00\x03abc\x00\x02de", []string{"abc", "de"}, "", true},
		{"\x00\x04", nil, "", false}, {"\x00\x04abcd", nil, "", false}, {"\x01\x00", nil, "", false}, {"\x03\x00abc", nil, "", false},
		{"\x00\x03abc\x00\x04", []string{"abc"}, "", false}, {"\x00\x03abc\x00\x00", []string{"abc"}, "", false}, {"\x00\x03abc\x00\x04d\x00\x01e", []string{"abc"}, "", false},
		{"\x00\x03ab\x00\x00\x00", []string{"ab\x00"}, "", false}, {"\x00\x01\x00\x00\x01\x00", []string{"\x00", "\x00"}, "", true},
		{"\x00\x02\x00\x00\x00\x02\x00\x04", []string{"\x00\x00", "\x00\x04"}, "", true}, {"\x00\x00\x00\x01a", nil, "", false},
	} {
		if l, rest, ok := frame.Split(x.s, 3); !slices.Equal(l, x.l) || rest != x.rest || ok != x.ok {
			t.Errorf("%q: %q, %q, %v", x.s, l, rest, ok)
		}
	}
}

// P12.1, R6: most is any number: below 1 no length is well, above 65535 each but 0 is.
func TestP12_1SplitOfAnyMost(t *testing.T) {
	for _, most := range mosts() {
		for n := range 6 {
			f, _ := modelWrap(strings.Repeat("x", max(n, 1)))
			l, _, ok := splits(t, strings.Repeat(f, n), most)
			if well := n == 0 || n <= most; ok != well || (len(l) == n) != well {
				t.Errorf("%d frames, most %d: %d bodies, %v", n, most, len(l), ok)
			}
		}
		for _, s := range []string{"", "\x00", "\xff"} {
			if l, rest, ok := splits(t, s, most); len(l) != 0 || rest != s || !ok {
				t.Errorf("%q, most %d: %q, %q, %v", s, most, l, rest, ok)
			}
		}
		for _, n := range []int{1, 2, 254, 255, 256, 257, 599, 600, 601, 65534, 65535} {
			f, _ := modelWrap(strings.Repeat("y", n))
			for _, s := range []string{f, f[:2], f[:1], f[:len(f)-1], f + "\x00", "\x00\x01a" + f, f + f} {
				splits(t, s, most)
			}
		}
	}
}

// P12.1: beside false there stand the bodies that came ahead, and nothing of what is left.
func TestP12_1SplitWrong(t *testing.T) {
	for n := range 20 {
		ahead := ""
		for i := range n {
			f, _ := modelWrap(strings.Repeat(string(rune('a'+i)), i+1))
			ahead += f
		}
		for _, wrong := range []string{"\x00\x00", "\x00\x15", "\xff\xff", "\x01\x01"} {
			for _, behind := range []string{"", "\x00", "\x00\x01z", "\x00\x00", strings.Repeat("z", 70000)} {
				l, rest, ok := splits(t, ahead+wrong+behind, 20)
				if len(l) != n || rest != "" || ok {
					t.Errorf("%d ahead of %q: %d, %q, %v", n, wrong, len(l), short(rest), ok)
				}
			}
		}
	}
}

// P12.1: all streams of few bytes.
func TestP12_1SplitOfAllShort(t *testing.T) {
	streams := []string{""}
	for from, n := 0, 1; n <= 7; n++ {
		to := len(streams)
		for _, s := range streams[from:to] {
			for _, b := range []string{"\x00", "\x01", "\x02", "\xff"} {
				streams = append(streams, s+b)
			}
		}
		from = to
	}
	for _, s := range streams {
		for _, most := range []int{0, 1, 2, 3, 255, 256, 258, 600} {
			splits(t, s, most)
		}
	}
}

// P12.1: what was wrapped, one behind the other, is split as it was.
func TestP12_1WrapThenSplit(t *testing.T) {
	r := rand.New(rand.NewSource(2))
	for range 300 {
		var want []string
		s := ""
		for range r.Intn(6) {
			body := drawnBytes(r, 1+r.Intn([]int{3, 300, 700, 65535}[r.Intn(4)]))
			f, ok := wraps(t, body)
			if !ok {
				t.Fatal(len(body))
			}
			want, s = append(want, body), s+f
		}
		if got, rest, ok := splits(t, s, 65535); !slices.Equal(got, want) || rest != "" || !ok {
			t.Fatalf("%d bodies: %d, %q, %v", len(want), len(got), short(rest), ok)
		}
	}
}

// P12.1: drawn streams, against the chapter's words.
func TestP12_1Drawn(t *testing.T) {
	r := rand.New(rand.NewSource(3))
	seen := map[bool]int{}
	for range 20000 {
		s, most := drawnStream(r, 9), 3+r.Intn(9)
		l, rest, ok := splits(t, s, most)
		if len(l) > 1 && (!ok || rest != "") {
			seen[ok]++
		}
	}
	if seen[true] < 1000 || seen[false] < 1000 {
		t.Error("too few of a kind:", seen)
	}
}

// P12.2: short streams in all the ways in which they can be cut.
func TestP12_2AllCuts(t *testing.T) {
	for _, s := range []string{
		"\x00\x02ab\x00\x03cde\x00", "\x00\x01a\x00\x01b\x00\x01c", "\x00\x01a\x00\x00\x00\x01b", "\x00\x01a\x01\x00\x00\x01b",
		"\x00\x04\x00\x01\x00\x01\x00\x01a", "\x00\x00\x00\x01a", "\x00\x05ab", "\x00\x03abc\x00\x06abcdef", "\x00\x01\x00\x00\x02\x00\x00\x00", "a", "",
	} {
		for _, most := range mosts() {
			for cuts := range 1 << max(len(s)-1, 0) {
				var parts []string
				from := 0
				for i := range max(len(s)-1, 0) {
					if cuts>>i&1 == 1 {
						parts, from = append(parts, s[from:i+1]), i+1
					}
				}
				fed(t, append(parts, s[from:]), most)
			}
		}
	}
}

// P12.2: frames of the greatest length, cut about their ends and about what can be a frame's most.
func TestP12_2LongFrames(t *testing.T) {
	r := rand.New(rand.NewSource(4))
	first, _ := modelWrap(drawnBytes(r, 65535))
	second, _ := modelWrap(drawnBytes(r, 600))
	s := first + second + first[:9000]
	for _, at := range []int{0, 1, 2, 3, 255, 256, 257, 65535, 65536, 65537, 65538, 65539, 65540, 66137, 66138, 66139, 66140, 66141, len(s) - 1, len(s)} {
		for _, most := range []int{599, 600, 65534, 65535, 65536} {
			fed(t, []string{s[:at], s[at:]}, most)
			fed(t, []string{"", s[:at], "", s[at:], ""}, most)
		}
	}
}

// P12.2: byte by byte, and in drawn parts, some of them empty.
func TestP12_2Drawn(t *testing.T) {
	r := rand.New(rand.NewSource(5))
	seen := map[bool]int{}
	for range 5000 {
		s, most := drawnStream(r, 12), 8+r.Intn(8)
		fed(t, drawnParts(r, s), most)
		fed(t, drawnParts(r, s), most)
		fed(t, append(strings.Split(s, ""), ""), most)
		single := []string{""}
		for i := range len(s) {
			single = append(single, s[i:i+1])
		}
		fed(t, single, most)
		_, _, ok := frame.Split(s, most)
		seen[ok]++
	}
	if seen[true] < 500 || seen[false] < 500 {
		t.Error("too few of a kind:", seen)
	}
}

// P12.2: a length that is wrong is told with its second byte, and not with its first.
func TestP12_2WrongIsToldAtOnce(t *testing.T) {
	f, _ := modelWrap("abc")
	for _, wrong := range []string{"\x00\x00", "\x00\x04", "\x04\x00", "\xff\xff"} {
		if l, rest, ok := frame.Split(f+wrong[:1], 3); len(l) != 1 || rest != wrong[:1] || !ok {
			t.Errorf("%q: %q, %q, %v", wrong[:1], l, rest, ok)
		}
		if l, rest, ok := frame.Split(wrong, 3); len(l) != 0 || rest != "" || ok {
			t.Errorf("%q: %q, %q, %v", wrong, l, rest, ok)
		}
	}
}

// R4: lists that are answered are new memory, also where one is false.
func TestR4(t *testing.T) {
	for _, s := range []string{"\x00\x02ab\x00\x02cd\x00", "\x00\x02ab\x00\x02cd\x00\x00"} {
		first, _, _ := frame.Split(s, 9)
		second, _, _ := frame.Split(s, 9)
		for i := range first {
			first[i] = "spoilt"
		}
		_ = append(first[:0], "spoilt", "spoilt")
		if !slices.Equal(second, []string{"ab", "cd"}) {
			t.Errorf("%q", second)
		}
		splits(t, s, 9)
	}
}

// R7: the same asked twice is answered alike, whatever was asked between.
func TestR7(t *testing.T) {
	r := rand.New(rand.NewSource(6))
	for range 300 {
		s, most := drawnStream(r, 9), r.Intn(12)
		l, rest, ok := frame.Split(s, most)
		f, well := frame.Wrap(s)
		frame.Split(drawnStream(r, 9)+"\x00", 12)
		frame.Split("\x00\x00", 12)
		frame.Wrap(strings.Repeat("x", 65536))
		l2, rest2, ok2 := frame.Split(s, most)
		f2, well2 := frame.Wrap(s)
		if !slices.Equal(l, l2) || rest != rest2 || ok != ok2 || f != f2 || well != well2 {
			t.Fatalf("%q, %d", s, most)
		}
	}
}

// P0: no call panics, at any bytes and numbers.
func TestP0AllArguments(t *testing.T) {
	r := rand.New(rand.NewSource(7))
	for range 3000 {
		s := drawnBytes(r, r.Intn(40))
		wraps(t, s)
		for _, most := range mosts() {
			splits(t, s, most)
			splits(t, "\x00"+s, most)
		}
	}
}

// P0: a great many frames, and a great many bytes, each of them gone through but once.
func TestP0VeryMany(t *testing.T) {
	const n = 2000000
	l, rest, ok := frame.Split(strings.Repeat("\x00\x01a", n)+"\x00", 1)
	if len(l) != n || l[0] != "a" || l[n-1] != "a" || rest != "\x00" || !ok {
		t.Error(len(l), rest, ok)
	}
	big := strings.Repeat("x", 1<<26)
	if f, ok := frame.Wrap(big); f != "" || ok {
		t.Error(len(f), ok)
	}
	l, rest, ok = frame.Split(strings.Repeat("\xff\xff"+big[:65535], 1000)+big[:9], 65535)
	if len(l) != 1000 || l[999] != big[:65535] || rest != big[:9] || !ok {
		t.Error(len(l), len(rest), ok)
	}
}
