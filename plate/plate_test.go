package plate_test

import (
	"math"
	"math/rand"
	"slices"
	"strconv"
	"strings"
	"testing"
	"unsafe"

	"chancel/plate"
)

// holds tells whether plate i has s, and bytes 0 behind it.
func holds(t *testing.T, d *plate.Disk, i int, s string) {
	t.Helper()
	if got, ok := d.Get(i); got != full(s) || !ok {
		t.Errorf("plate %d: %q, %v, not %q", i, got, ok, s)
	}
}

// well tells which of some answers is false.
func well(t *testing.T, l ...bool) {
	t.Helper()
	for i, x := range l {
		if !x {
			t.Fatalf("call %d is refused", i)
		}
	}
}

// P16.1: the example of the chapter.
func TestP16_1Example(t *testing.T) {
	d := made(t, 9)
	well(t, d.Lay(3, "a"), d.Barrier(), d.Lay(3, "b"), d.Lay(3, "c"))
	d.Fall([]int{1})
	holds(t, d, 3, "b")
}

// P16.1, R2: a disk has 1 to 16384 plates; else there is none.
func TestP16_1New(t *testing.T) {
	for _, n := range []int{1, 2, 9, 128, 16383, 16384} {
		d := made(t, n)
		if d.Size() != n || !d.On() || len(d.Loose()) != 0 {
			t.Fatal(n, d.Size(), d.On(), d.Loose())
		}
		for i := range n {
			if s, ok := d.Get(i); s != blank || !ok {
				t.Fatalf("%d: plate %d: %q, %v", n, i, s, ok)
			}
		}
	}
	for _, n := range []int{math.MinInt, -16384, -2, -1, 0, 16385, 16386, 1 << 31, 1 << 40, math.MaxInt} {
		if d, ok := plate.New(n); d != nil || ok {
			t.Error(n, d, ok)
		}
	}
}

// P16.1: plates are numbered from 0 on; of others there is nothing, and nothing is laid there.
func TestP16_1EachPlate(t *testing.T) {
	for _, n := range []int{1, 2, 3, 40, 16384} {
		d := made(t, n)
		for i := range n {
			well(t, d.Lay(i, strconv.Itoa(i)))
		}
		for _, i := range append(ends(), -n, n-1, n, n+1, 2*n) {
			s, ok := d.Get(i)
			if there := i >= 0 && i < n; ok != there || (s == "") == there {
				t.Error(n, i, s, ok)
			}
			if there := i >= 0 && i < n; d.Lay(i, strconv.Itoa(i)) != there {
				t.Error("Lay", n, i)
			}
		}
		for i := range n {
			if s, ok := d.Get(i); s != full(strconv.Itoa(i)) || !ok {
				t.Fatal(n, i, s, ok)
			}
		}
		if len(d.Loose()) != n {
			t.Error(n, len(d.Loose()))
		}
	}
}

// P16.1: a content has at most 128 bytes, of any kind, and bytes 0 behind them; what was there leaves none of its own.
func TestP16_1Lay(t *testing.T) {
	r := rand.New(rand.NewSource(1))
	p := newPair(t, 3)
	for n := range 140 {
		b := make([]byte, n)
		r.Read(b)
		well(t, p.lay(1, strings.Repeat("\xff", 128)))
		if got := p.lay(1, string(b)); got != (n <= 128) {
			t.Fatal(n, got)
		}
		p.same("Lay")
		if s, _ := p.d.Get(1); len(s) != 128 || (n <= 128 && s[:n] != string(b)) || (n > 128 && s != strings.Repeat("\xff", 128)) {
			t.Fatalf("%d: %q", n, s)
		}
	}
	for i := range 256 {
		b := string([]byte{byte(i)})
		for _, s := range []string{b, "\x00" + b, strings.Repeat(b, 128)} {
			well(t, p.lay(2, s))
			p.get(2)
			holds(t, p.d, 2, s)
		}
	}
	if p.lay(0, strings.Repeat("x", 1<<20)) || len(p.d.Loose()) != 2 {
		t.Error("a long one:", p.d.Loose())
	}
}

// P16.1: what was laid last is there, ahead of a barrier and behind it.
func TestP16_1Get(t *testing.T) {
	d := made(t, 4)
	well(t, d.Lay(1, "a"))
	holds(t, d, 1, "a")
	well(t, d.Lay(1, "b"), d.Lay(2, "x"))
	holds(t, d, 1, "b")
	well(t, d.Barrier())
	holds(t, d, 1, "b")
	holds(t, d, 2, "x")
	well(t, d.Lay(1, ""), d.Lay(2, "y"))
	holds(t, d, 1, "")
	holds(t, d, 2, "y")
	holds(t, d, 0, "")
	holds(t, d, 3, "")
}

// P16.1: a disk does as many steps as it was told, each a Lay or a Barrier, and goes off at the next one.
func TestP16_1Limit(t *testing.T) {
	for n := range 7 {
		for kinds := range 1 << (n + 1) {
			p := newPair(t, 2)
			well(t, p.lay(1, "firm"), p.barrier(), p.lay(1, "old"))
			p.limit(n)
			for k := range n + 1 {
				if !p.d.On() {
					t.Fatal(n, k, "off too soon")
				}
				got := false
				if kinds>>k&1 == 1 {
					got = p.lay(k%2, strconv.Itoa(k))
				} else {
					got = p.barrier()
				}
				if got != (k < n) {
					t.Fatal(n, k, got)
				}
			}
			if p.d.On() {
				t.Fatal(n, "on still")
			}
			p.same("the last step")
			p.fall([]int{kinds, kinds - n})
		}
	}
}

// P16.1: the step for which there is none left lays nothing, and makes nothing firm.
func TestP16_1NoStepLeft(t *testing.T) {
	for _, pick := range [][]int{nil, {0}, {1}, {2}, {1, 1}, {2, 1}} {
		p := newPair(t, 3)
		well(t, p.lay(0, "a"), p.barrier(), p.lay(0, "b"))
		p.limit(0)
		if p.lay(1, "c") || p.d.On() || !slices.Equal(p.d.Loose(), []int{0}) {
			t.Fatal("Lay", p.d.On(), p.d.Loose())
		}
		p.fall(pick)
		holds(t, p.d, 1, "")
		well(t, p.lay(0, "d"))
		p.limit(0)
		if p.barrier() || p.d.On() || !slices.Equal(p.d.Loose(), []int{0}) {
			t.Fatal("Barrier", p.d.On(), p.d.Loose())
		}
		p.fall(nil)
		p.same("a barrier that was none")
		well(t, p.lay(0, "e"))
		p.limit(0)
		if p.lay(0, "f") {
			t.Fatal("Lay of a loose plate")
		}
		p.fall([]int{1})
		holds(t, p.d, 0, "e")
	}
}

// P16.1: what is wrong, and what is only asked, takes no step.
func TestP16_1WhatIsNoStep(t *testing.T) {
	p := newPair(t, 3)
	for _, n := range []int{0, 1, 2} {
		p.fall(nil)
		p.limit(n)
		for range 5 {
			for _, i := range []int{-1, 3, math.MinInt, math.MaxInt} {
				if p.lay(i, "x") || !p.d.On() {
					t.Fatal("no such plate", i)
				}
			}
			if p.lay(1, strings.Repeat("x", 129)) || p.lay(-1, strings.Repeat("x", 129)) || !p.d.On() {
				t.Fatal("too long")
			}
			p.same("what is no step")
		}
		for range n {
			well(t, p.lay(2, "y"))
		}
		if !p.d.On() || p.lay(2, "z") || p.d.On() {
			t.Fatal(n)
		}
	}
}

// P16.1: a limit takes the place of the one before it; below 0 there is none.
func TestP16_1LimitAnew(t *testing.T) {
	d := made(t, 2)
	for _, x := range []struct {
		limits []int
		steps  int
	}{
		{[]int{3}, 3}, {[]int{3, 1}, 1}, {[]int{1, 3}, 3}, {[]int{0, 2}, 2}, {[]int{2, 0}, 0}, {[]int{-1, 2}, 2}, {[]int{math.MaxInt, 2}, 2}, {[]int{math.MinInt, 1}, 1},
		{[]int{0, -1}, -1}, {[]int{1, -2}, -1}, {[]int{2, math.MinInt}, -1}, {[]int{0, math.MaxInt}, -1}, {[]int{1, 1 << 40}, -1}, {nil, -1}, {[]int{-1}, -1},
	} {
		d.Fall(nil)
		for _, n := range x.limits {
			d.Limit(n)
		}
		n := 0
		for n < 100 && d.Lay(n%2, "x") {
			n++
		}
		if want := x.steps; n != want && (want >= 0 || n != 100) {
			t.Errorf("%v: %d steps", x.limits, n)
		}
		if d.On() != (x.steps < 0) {
			t.Errorf("%v: on %v", x.limits, d.On())
		}
	}
	d.Fall(nil)
	d.Limit(4)
	well(t, d.Lay(0, "a"), d.Lay(0, "b"))
	d.Limit(2)
	if !d.Barrier() || !d.Lay(0, "c") || d.Lay(0, "d") {
		t.Error("a limit in the midst of one")
	}
}

// P16.1, R2: of a disk that is off nothing is read, laid or made firm; a limit doesn't switch it on.
func TestP16_1Off(t *testing.T) {
	p := newPair(t, 3)
	well(t, p.lay(0, "a"), p.barrier(), p.lay(2, "b"), p.lay(1, "c"))
	p.limit(0)
	if p.barrier() {
		t.Fatal("no step was left")
	}
	for _, n := range []int{0, 1, 5, -1, math.MaxInt, math.MinInt} {
		p.limit(n)
		if p.d.On() || p.lay(0, "x") || p.barrier() || p.d.Size() != 3 || !slices.Equal(p.d.Loose(), []int{1, 2}) {
			t.Fatal(n, p.d.On(), p.d.Size(), p.d.Loose())
		}
		for i := -1; i < 4; i++ {
			if s, ok := p.d.Get(i); s != "" || ok {
				t.Fatal(n, i, s, ok)
			}
		}
	}
	p.limit(0)
	p.fall([]int{1})
	holds(t, p.d, 0, "a")
	holds(t, p.d, 1, "c")
	holds(t, p.d, 2, "")
	for range 50 {
		well(t, p.lay(1, "z"), p.barrier())
	}
}

// P16.1: each number of a pick, of each number of contents that were laid.
func TestP16_1Fall(t *testing.T) {
	for laid := range 6 {
		may := []string{"firm"}
		for k := range laid {
			may = append(may, strconv.Itoa(k))
		}
		numbers := ends()
		for n := -14; n <= 14; n++ {
			numbers = append(numbers, n)
		}
		for _, n := range numbers {
			p := newPair(t, 2)
			well(t, p.lay(1, "firm"), p.barrier())
			for _, s := range may[1:] {
				well(t, p.lay(1, s))
			}
			p.fall([]int{n})
			at := n % len(may)
			if at < 0 {
				at += len(may)
			}
			holds(t, p.d, 1, may[at])
			holds(t, p.d, 0, "")
			if len(p.d.Loose()) != 0 || !p.d.On() {
				t.Fatal(laid, n, p.d.Loose(), p.d.On())
			}
		}
	}
}

// P16.1: a pick's kth number is of the kth loose plate, as they rise; where there is none, what was firm is.
func TestP16_1FallOfSome(t *testing.T) {
	for _, x := range []struct {
		pick []int
		want string
	}{
		{nil, "....."}, {[]int{}, "....."}, {[]int{0}, "....."}, {[]int{1}, ".A..."}, {[]int{0, 1}, "..B.."}, {[]int{0, 2}, "..b.."}, {[]int{0, 3}, "....."}, {[]int{0, 0, 1}, "....D"},
		{[]int{1, 1, 1}, ".AB.D"}, {[]int{2, 2, 2}, "..b.d"}, {[]int{1, 2, 3}, ".Ab.e"}, {[]int{-1, -1, -1}, ".Ab.e"}, {[]int{3, 4, 5}, ".AB.D"}, {[]int{1, 1, 1, 1, 1, 1}, ".AB.D"}, {[]int{0, 0, 0, 1, 1}, "....."},
	} {
		p := newPair(t, 5)
		for i := range 5 {
			well(t, p.lay(i, "."))
		}
		// As they come is not as they rise.
		well(t, p.barrier(), p.lay(4, "D"), p.lay(2, "B"), p.lay(4, "d"), p.lay(1, "A"), p.lay(2, "b"), p.lay(4, "e"))
		p.fall(x.pick)
		got := ""
		for i := range 5 {
			s, _ := p.d.Get(i)
			got += s[:1]
		}
		if got != x.want {
			t.Errorf("%v: %s, not %s", x.pick, got, x.want)
		}
	}
}

// P16.1: contents that are alike count each for itself, and so does one that is like what is firm.
func TestP16_1FallOfAlike(t *testing.T) {
	for n, want := range []string{"a", "b", "b", "a", "c", "a", "b"} {
		p := newPair(t, 1)
		well(t, p.lay(0, "a"), p.barrier(), p.lay(0, "b"), p.lay(0, "b"), p.lay(0, "a"), p.lay(0, "c"))
		p.fall([]int{n})
		holds(t, p.d, 0, want)
	}
	p := newPair(t, 2)
	well(t, p.lay(1, ""), p.lay(0, "x"))
	if !slices.Equal(p.d.Loose(), []int{0, 1}) {
		t.Fatal("laid as it was:", p.d.Loose())
	}
	p.fall([]int{0, 1})
	p.same("Fall")
}

// P16.1: a fall leaves nothing loose: a second one changes nothing, and a barrier has nothing to make firm.
func TestP16_1FallTwice(t *testing.T) {
	p := newPair(t, 3)
	well(t, p.lay(0, "a"), p.barrier(), p.lay(0, "b"), p.lay(1, "c"))
	p.fall([]int{1})
	p.fall([]int{0, 1})
	p.fall([]int{2, 1, 1})
	holds(t, p.d, 0, "b")
	holds(t, p.d, 1, "")
	well(t, p.barrier())
	holds(t, p.d, 1, "")
	well(t, p.lay(0, "d"))
	p.fall(nil)
	holds(t, p.d, 0, "b")
}

// P16.1: a disk that is on falls as well, and its limit is gone.
func TestP16_1FallWhileOn(t *testing.T) {
	p := newPair(t, 2)
	well(t, p.lay(0, "a"))
	p.limit(1)
	p.fall([]int{1})
	holds(t, p.d, 0, "a")
	for range 40 {
		well(t, p.lay(1, "b"), p.barrier())
	}
}

// P16.1: the loose plates rise, each one once, from a barrier or a fall to the next.
func TestP16_1Loose(t *testing.T) {
	r := rand.New(rand.NewSource(2))
	for _, n := range []int{1, 2, 7, 300} {
		p := newPair(t, n)
		for range 60 {
			for range r.Intn(2*n + 1) {
				well(t, p.lay(r.Intn(n), "x"))
			}
			got := p.d.Loose()
			if !slices.Equal(got, p.m.loose()) || !slices.IsSorted(got) || len(slices.Compact(slices.Clone(got))) != len(got) {
				t.Fatal(n, got)
			}
			if r.Intn(2) == 0 {
				well(t, p.barrier())
			} else {
				p.fall(nil)
			}
			if len(p.d.Loose()) != 0 {
				t.Fatal(n, p.d.Loose())
			}
		}
	}
}

// P16.1: drawn calls, in any order, held against the model.
func TestP16_1Drawn(t *testing.T) {
	r := rand.New(rand.NewSource(3))
	for range 1200 {
		p := newPair(t, 1+r.Intn(6))
		for range 120 {
			p.drawn(r)
		}
		p.same("all")
	}
}

// P16.1: all rows of six calls, of a disk of two plates.
func TestP16_1AllShortRows(t *testing.T) {
	calls := []func(p pair){
		func(p pair) { p.lay(0, "a") }, func(p pair) { p.lay(1, "b") }, func(p pair) { p.barrier() },
		func(p pair) { p.limit(1) }, func(p pair) { p.fall([]int{1}) }, func(p pair) { p.fall([]int{0, 1}) },
	}
	n := 1
	for range 6 {
		n *= len(calls)
	}
	for row := range n {
		p := newPair(t, 2)
		for x, k := row, 0; k < 6; x, k = x/len(calls), k+1 {
			calls[x%len(calls)](p)
		}
		p.same(strconv.Itoa(row))
	}
}

// P16.2: what was there at a barrier is firm behind any fall, but on plates that were laid on since.
func TestP16_2(t *testing.T) {
	r := rand.New(rand.NewSource(4))
	for range 1500 {
		n := 1 + r.Intn(9)
		d := made(t, n)
		was := make([]string, n)
		for range 6 {
			for range r.Intn(2 * n) {
				d.Lay(r.Intn(n), content(r))
			}
			if !d.Barrier() {
				t.Fatal("a disk without a limit")
			}
			for i := range n {
				was[i], _ = d.Get(i)
			}
			d.Limit(r.Intn(2*n) - 1)
			laid := map[int][]string{}
			for range r.Intn(2 * n) {
				i, s := r.Intn(n), content(r)
				if d.Lay(i, s) {
					laid[i] = append(laid[i], full(s))
				}
			}
			// Where it goes off here, that barrier is none.
			if r.Intn(3) == 0 && d.Barrier() {
				for i, l := range laid {
					was[i] = l[len(l)-1]
				}
				clear(laid)
			}
			d.Fall(picks(r, n))
			for i := range n {
				s, ok := d.Get(i)
				if !ok || (s != was[i] && !slices.Contains(laid[i], s)) {
					t.Fatalf("plate %d: %q, %v, behind %q and %q", i, s, ok, was[i], laid[i])
				}
			}
		}
	}
}

// P16.2: each of the contents of a plate may be firm behind a fall, whatever the others are.
func TestP16_2EachWay(t *testing.T) {
	for a := range 3 {
		for b := range 4 {
			d := made(t, 4)
			well(t, d.Lay(0, "0"), d.Lay(1, "1"), d.Lay(2, "2"), d.Barrier(), d.Lay(2, "x"), d.Lay(0, "y"), d.Lay(2, "z"), d.Lay(0, "w"), d.Lay(2, "v"))
			d.Fall([]int{a, b})
			holds(t, d, 0, []string{"0", "y", "w"}[a])
			holds(t, d, 1, "1")
			holds(t, d, 2, []string{"2", "x", "z", "v"}[b])
			holds(t, d, 3, "")
		}
	}
}

// R4: what Loose answers is new memory, and a pick isn't kept.
func TestR4(t *testing.T) {
	d := made(t, 5)
	well(t, d.Lay(4, "a"), d.Lay(0, "b"), d.Lay(2, "c"))
	l, other := d.Loose(), d.Loose()
	for i := range l {
		l[i] = 3
	}
	_ = append(l[:0], 1, 1, 1, 1, 1)
	if want := []int{0, 2, 4}; !slices.Equal(other, want) || !slices.Equal(d.Loose(), want) {
		t.Error(other, d.Loose())
	}
	pick := []int{1, 1, 1}
	d.Fall(pick)
	clear(pick)
	for i, s := range []string{"b", "", "c", "", "a"} {
		holds(t, d, i, s)
	}
	well(t, d.Lay(1, "x"))
	d.Fall(pick)
	holds(t, d, 1, "")
	holds(t, d, 0, "b")
}

// R4: what was laid stays, but not the text that it came in, of which it may be a small part.
func TestR4TextIsNotKept(t *testing.T) {
	d := made(t, 2)
	long := strings.Repeat("abcdefg", 1000)
	for _, n := range []int{1, 127, 128} {
		well(t, d.Lay(0, long[:n]), d.Lay(1, long[:n]), d.Barrier())
		for i := range 2 {
			holds(t, d, i, long[:n])
			if s, _ := d.Get(i); unsafe.StringData(s) == unsafe.StringData(long) {
				t.Error(n, i, "is the text that was handed in")
			}
		}
	}
}

// R7: disks have nothing to do with each other, and the same calls are answered the same.
func TestR7(t *testing.T) {
	a, b := newPair(t, 4), newPair(t, 4)
	c := newPair(t, 4)
	ra, rb := rand.New(rand.NewSource(5)), rand.New(rand.NewSource(5))
	for range 3000 {
		a.drawn(ra)
		b.drawn(rb)
		if a.d.On() != b.d.On() || !slices.Equal(a.d.Loose(), b.d.Loose()) {
			t.Fatal(a.d.Loose(), b.d.Loose())
		}
		for i := range 4 {
			sa, oka := a.d.Get(i)
			if sb, okb := b.d.Get(i); sa != sb || oka != okb {
				t.Fatal(i, sa, sb)
			}
		}
	}
	c.same("nothing")
}

// P0, R2: of a nil disk there is nothing.
func TestP0Nil(t *testing.T) {
	var d *plate.Disk
	for range 2 {
		if d.Size() != 0 || d.On() || len(d.Loose()) != 0 || d.Barrier() {
			t.Error(d.Size(), d.On(), d.Loose())
		}
		for _, i := range ends() {
			if s, ok := d.Get(i); s != "" || ok || d.Lay(i, "") || d.Lay(i, "x") {
				t.Error(i, s, ok)
			}
			d.Limit(i)
			d.Fall([]int{i})
		}
		d.Fall(nil)
	}
}

// P0, R6: every call ends and none panics, at the ends of all numbers; also of a disk that came about otherwise.
func TestP0AllArguments(t *testing.T) {
	for _, p := range []pair{newPair(t, 1), newPair(t, 2), newPair(t, 5)} {
		for _, n := range ends() {
			for _, i := range ends() {
				p.lay(0, "a")
				p.lay(1, "b")
				p.limit(n)
				p.get(i)
				p.lay(i, "x")
				p.lay(i, strings.Repeat("x", 200))
				p.barrier()
				p.lay(i, "y")
				p.lay(i, "z")
				p.same("calls")
				p.fall([]int{i, n, i, n, i, n, i})
			}
		}
	}
	other := &plate.Disk{}
	for _, i := range ends() {
		other.Get(i)
		other.Lay(i, "x")
		other.Limit(i)
		other.Barrier()
		other.Fall([]int{i})
	}
	other.Loose()
}

// P0: a great disk, on which much is laid.
func TestP0VeryMany(t *testing.T) {
	d := made(t, 16384)
	for k := range 400000 {
		if !d.Lay(k*7919%16384, strconv.Itoa(k)) {
			t.Fatal(k)
		}
	}
	if l := d.Loose(); len(l) != 16384 || !slices.IsSorted(l) {
		t.Fatal(len(l))
	}
	pick := make([]int, 16384)
	for k := range pick {
		pick[k] = -1
	}
	d.Fall(pick)
	for k := 400000 - 16384; k < 400000; k++ {
		holds(t, d, k*7919%16384, strconv.Itoa(k))
	}
	// A plate that is laid on over and over again.
	for k := range 300000 {
		if !d.Lay(5, strconv.Itoa(k)) {
			t.Fatal(k)
		}
	}
	d.Fall([]int{250001})
	holds(t, d, 5, "250000")
	for k := range 100000 {
		if !d.Lay(k%3, strconv.Itoa(k)) || !d.Barrier() {
			t.Fatal(k)
		}
	}
	holds(t, d, 0, "99999")
}
