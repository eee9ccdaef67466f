package octets_test

import (
	"errors"
	"math"
	"strings"
	"testing"

	"chancel/octets"
)

// P13.1, P14.1: what is put, written out, and taken again in the same order.
func TestP13_1PutAndTaken(t *testing.T) {
	w := &octets.Writer{}
	w.PutByte(255)
	w.PutPair(258)
	w.PutNumber(-2)
	w.PutNumbers(1, 256)
	w.PutText("a€")
	w.PutBool(true)
	w.PutBool(false)
	octets.PutItems(w, []int{7, 8}, w.PutByte)
	s, ok := w.Written()
	want := "\xff\x01\x02\xff\xff\xff\xff\xff\xff\xff\xfe\x00\x00\x00\x00\x00\x00\x00\x01\x00\x00\x00\x00\x00\x00\x01\x00\x00\x04a\xe2\x82\xac\x01\x00\x07\x08"
	if s != want || !ok {
		t.Fatalf("%q, %v", s, ok)
	}
	r := octets.Of(s)
	_, ok = octets.Whole(&r, func() int {
		if r.TakeByte() != 255 || r.TakePair() != 258 || r.TakeNumber() != -2 || r.TakeNumber() != 1 || r.TakeNumber() != 256 {
			t.Error("numbers")
		}
		if r.TakeText() != "a€" || !r.TakeBool() || r.TakeBool() {
			t.Error("a text, bools")
		}
		if l := octets.TakeItems(2, r.TakeByte); len(l) != 2 || l[0] != 7 || l[1] != 8 {
			t.Error("items", l)
		}
		return 1
	})
	if !ok {
		t.Error("not whole")
	}
}

// P13.1, P14.1: any number is taken as it was put.
func TestP13_1AnyNumber(t *testing.T) {
	for _, n := range []int{0, 1, -1, 255, 256, 1 << 40, math.MaxInt, math.MinInt, math.MinInt + 1, 0x0102030405060708} {
		w := &octets.Writer{}
		w.PutNumber(n)
		s, _ := w.Written()
		r := octets.Of(s)
		if m, ok := octets.Whole(&r, r.TakeNumber); m != n || !ok || len(s) != 8 {
			t.Error(n, m, ok, len(s))
		}
	}
}

// P18.1: all that is left is taken as it is, also where that is nothing.
func TestP18_1Rest(t *testing.T) {
	for _, x := range []string{"", "\x00", "rest", strings.Repeat("x", 70000)} {
		r := octets.Of("\x07" + x)
		s, ok := octets.Whole(&r, func() string {
			r.TakeByte()
			return r.TakeRest()
		})
		if s != x || !ok {
			t.Error(len(x), len(s), ok)
		}
	}
}

// P13.1, P14.1: what has no bytes makes all that is put wrong, whatever comes behind.
func TestP13_1Wrong(t *testing.T) {
	big := strings.Repeat("x", 1<<16)
	for i, put := range []func(*octets.Writer){
		func(w *octets.Writer) { w.PutByte(-1) },
		func(w *octets.Writer) { w.PutByte(256) },
		func(w *octets.Writer) { w.PutByte(math.MinInt) },
		func(w *octets.Writer) { w.PutPair(-1) },
		func(w *octets.Writer) { w.PutPair(65536) },
		func(w *octets.Writer) { w.PutPair(math.MaxInt) },
		func(w *octets.Writer) { w.PutText(big) },
		func(w *octets.Writer) { w.Spoil() },
		func(w *octets.Writer) { octets.PutItems(w, []int{1, 300, 2}, w.PutByte) },
	} {
		w := &octets.Writer{}
		w.PutByte(1)
		put(w)
		w.PutByte(2)
		w.PutText("y")
		if s, ok := w.Written(); s != "" || ok {
			t.Errorf("%d: %q, %v", i, s, ok)
		}
	}
	w := &octets.Writer{}
	w.PutText(big[1:])
	w.PutPair(65535)
	w.PutByte(0)
	if s, ok := w.Written(); len(s) != 2+65535+2+1 || !ok {
		t.Error(len(s), ok)
	}
}

// P13.1, P14.1: items of a list that is wrong aren't all put.
func TestP13_1ItemsOfWrong(t *testing.T) {
	w := &octets.Writer{}
	w.PutByte(256)
	octets.PutItems(w, make([]int, 9), func(int) { t.Error("put") })
}

// P13.1, P14.1: where bytes are missing, over, or none of what is taken, there is nothing.
func TestP13_1NotWhole(t *testing.T) {
	for _, x := range []struct {
		s    string
		take func(r *octets.Reader) any
	}{
		{"", func(r *octets.Reader) any { return r.TakeByte() }},
		{"ab", func(r *octets.Reader) any { return r.TakeByte() }},
		{"a", func(r *octets.Reader) any { return r.TakePair() }},
		{"abcdefg", func(r *octets.Reader) any { return r.TakeNumber() }},
		{"abcdefghi", func(r *octets.Reader) any { return r.TakeNumber() }},
		{"\x00", func(r *octets.Reader) any { return r.TakeText() }},
		{"\x00\x02a", func(r *octets.Reader) any { return r.TakeText() }},
		{"\x00\x00a", func(r *octets.Reader) any { return r.TakeText() }},
		{"\x02", func(r *octets.Reader) any { return r.TakeBool() }},
		{"\xff", func(r *octets.Reader) any { return r.TakeBool() }},
		{"ab", func(r *octets.Reader) any { return octets.TakeItems(3, r.TakeByte) }},
		{"", func(r *octets.Reader) any { r.GiveUp(); return 1 }},
	} {
		r := octets.Of(x.s)
		if v, ok := octets.Whole(&r, func() any { return x.take(&r) }); v != nil || ok {
			t.Errorf("%q: %v, %v", x.s, v, ok)
		}
	}
}

// P13.1, P14.1: a fault that isn't the reader's own is not taken for one of the bytes.
func TestP13_1FaultsGoOn(t *testing.T) {
	fault := errors.New("x")
	defer func() {
		if p := recover(); p != fault {
			t.Error(p)
		}
	}()
	r := octets.Of("")
	octets.Whole(&r, func() int { panic(fault) })
}
