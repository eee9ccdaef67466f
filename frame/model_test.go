package frame_test

import (
	"bytes"
	"encoding/binary"
	"math"
	"math/rand"
	"slices"
	"strings"
	"testing"

	"chancel/frame"
)

// mosts: numbers about 0, about the lengths that a head can tell, and at the ends of what a number can be.
func mosts() []int {
	return []int{math.MinInt, math.MinInt + 1, -65536, -1, 0, 1, 2, 3, 4, 255, 256, 257, 600, 65534, 65535, 65536, 65537, 1 << 32, math.MaxInt - 1, math.MaxInt}
}

// modelWrap: as the chapter's words tell it.
func modelWrap(body string) (string, bool) {
	if len(body) < 1 || len(body) > 65535 {
		return "", false
	}
	var b bytes.Buffer
	binary.Write(&b, binary.BigEndian, uint16(len(body)))
	b.WriteString(body)
	return b.String(), true
}

// reader: a frame that is read byte by byte, as the chapter's words tell it.
type reader struct {
	most   int
	held   []byte // bytes of the frame that isn't whole
	bodies []string
	wrong  bool
}

// read takes one byte more.
func (r *reader) read(b byte) {
	if r.wrong {
		return
	}
	r.held = append(r.held, b)
	if len(r.held) < 2 {
		return
	}
	n := int(binary.BigEndian.Uint16(r.held))
	switch {
	case n == 0 || n > r.most:
		r.wrong, r.held = true, nil
	case len(r.held) == 2+n:
		r.bodies, r.held = append(r.bodies, string(r.held[2:])), nil
	}
}

// modelSplit: as the chapter's words tell it.
func modelSplit(s string, most int) ([]string, string, bool) {
	r := reader{most: most}
	for i := range len(s) {
		r.read(s[i])
	}
	return r.bodies, string(r.held), !r.wrong
}

// short: s for a message.
func short(s string) string {
	if len(s) <= 40 {
		return s
	}
	return s[:40] + ".."
}

// wraps asks Wrap once, and whether it answers as the model.
func wraps(t *testing.T, body string) (string, bool) {
	t.Helper()
	got, ok := frame.Wrap(body)
	if want, well := modelWrap(body); got != want || ok != well {
		t.Fatalf("Wrap(%q) of %d bytes: %q of %d bytes, %v, not %q, %v", short(body), len(body), short(got), len(got), ok, short(want), well)
	}
	return got, ok
}

// splits asks Split once, and whether it answers as the model.
func splits(t *testing.T, s string, most int) ([]string, string, bool) {
	t.Helper()
	got, rest, ok := frame.Split(s, most)
	bodies, left, well := modelSplit(s, most)
	if !slices.Equal(got, bodies) || rest != left || ok != well {
		t.Fatalf("Split(%q, %d) of %d bytes: %d bodies, %q, %v, not %d bodies, %q, %v", short(s), most, len(s), len(got), short(rest), ok, len(bodies), short(left), well)
	}
	return got, rest, ok
}

// feed asks Split of part behind part, what is left put ahead of what comes, till one is false.
func feed(parts []string, most int) ([]string, string, bool) {
	var bodies []string
	rest := ""
	for _, p := range parts {
		l, left, ok := frame.Split(rest+p, most)
		bodies, rest = append(bodies, l...), left
		if !ok {
			return bodies, rest, false
		}
	}
	return bodies, rest, true
}

// fed asks whether what comes in parts is read as it is in one.
func fed(t *testing.T, parts []string, most int) {
	t.Helper()
	s := strings.Join(parts, "")
	want, left, well := frame.Split(s, most)
	got, rest, ok := feed(parts, most)
	if !slices.Equal(got, want) || rest != left || ok != well {
		t.Fatalf("%q in %d parts, of which %d bytes are first, most %d: %d bodies, %q, %v, not %d bodies, %q, %v", short(s), len(parts), len(parts[0]), most, len(got), short(rest), ok, len(want), short(left), well)
	}
}

// drawnBytes: n bytes of any kind.
func drawnBytes(r *rand.Rand, n int) string {
	b := make([]byte, n)
	r.Read(b)
	return string(b)
}

// drawnStream: frames of up to most bytes, now and then one that is none, and perhaps a part of one more.
func drawnStream(r *rand.Rand, most int) string {
	s := ""
	for range r.Intn(8) {
		f, _ := modelWrap(drawnBytes(r, 1+r.Intn(most)))
		s += f
		if r.Intn(12) == 0 {
			s += []string{"\x00\x00", "\x00", "\xff\xff", "\x01"}[r.Intn(4)]
		}
	}
	f, _ := modelWrap(drawnBytes(r, 1+r.Intn(most)))
	return s + f[:r.Intn(len(f))]
}

// drawnParts: s in parts, some of them empty.
func drawnParts(r *rand.Rand, s string) []string {
	var parts []string
	for len(s) > 0 {
		n := min(r.Intn(1+r.Intn(9)), len(s))
		parts, s = append(parts, s[:n]), s[n:]
	}
	return append(parts, "")
}
