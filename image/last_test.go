package image_test

import (
	"math/rand"
	"strings"
	"testing"

	"chancel/acts"
	"chancel/api"
	"chancel/image"
	"chancel/plate"
)

// deed: something that is done with an image, true, if it was answered as done; and with a world that doesn't know a disk.
type deed struct {
	image func(m *image.Image) bool
	world func(w *acts.World)
}

// asked: a deed that is a call.
func asked(c api.Call, draw string) deed {
	return deed{
		func(m *image.Image) bool {
			_, done := m.Do(c, draw)
			return done
		},
		func(w *acts.World) { w.Do(c, draw) },
	}
}

// ticked: a deed that is a Tick.
func ticked(n int) deed {
	return deed{func(m *image.Image) bool { return m.Tick(n) }, func(w *acts.World) { w.Tick(n) }}
}

// snapped: a deed that is a Snapshot, of which a world sees nothing.
func snapped() deed {
	return deed{func(m *image.Image) bool { return m.Snapshot() }, func(w *acts.World) {}}
}

// choices: all rows of n numbers 0 or 1, or, where these are a great many, some that are drawn, and those of none and of all.
func choices(r *rand.Rand, n int) [][]int {
	all := 1 << min(n, 7)
	var l [][]int
	for x := range all {
		var row []int
		for k := range n {
			bit := x >> min(k, 7) & 1
			if n > 7 && x > 0 && x < all-1 {
				bit = r.Intn(2)
			}
			if n > 7 && x == all-1 {
				bit = 1
			}
			row = append(row, bit)
		}
		l = append(l, row)
	}
	return l
}

// fallen: what is there, and how it goes on, when the last deed is broken off behind so many steps, and the plates hold what pick says.
type fallen struct {
	t     *testing.T
	c     api.Config
	ahead []deed
	last  deed
}

// up: an image on which all but the last deed are done.
func (f fallen) up() (*plate.Disk, *image.Image) {
	f.t.Helper()
	d := disk(f.t, f.c)
	m := opened(f.t, f.c, d)
	for i, x := range f.ahead {
		if !x.image(m) {
			f.t.Fatal("ahead", i)
		}
	}
	return d, m
}

// world: what that image has.
func (f fallen) world() *acts.World {
	w, _ := acts.New(f.c)
	for _, x := range f.ahead {
		x.world(w)
	}
	return w
}

// steps: how many steps the last deed takes.
func (f fallen) steps() int {
	f.t.Helper()
	for n := range 200 {
		d, m := f.up()
		d.Limit(n)
		if f.last.image(m) {
			return n
		}
	}
	f.t.Fatal("it is never done")
	return 0
}

// loose: how many plates are loose when the last deed is broken off behind n steps.
func (f fallen) loose(n int) int {
	f.t.Helper()
	d, m := f.up()
	d.Limit(n)
	f.last.image(m)
	return len(d.Loose())
}

// each breaks the last deed off at each step, with each choice, and tells how often what it did was there, and how often not.
func (f fallen) each(r *rand.Rand) (int, int) {
	f.t.Helper()
	w := f.world()
	was := bytesOf(f.t, w.State())
	f.last.world(w)
	then := bytesOf(f.t, w.State())
	kept, lost := 0, 0
	all := f.steps()
	for n := range all + 1 {
		for _, pick := range choices(r, f.loose(n)) {
			d, m := f.up()
			d.Limit(n)
			done := f.last.image(m)
			if done != (n == all) || d.On() != done {
				f.t.Fatalf("%d steps of %d: %v", n, all, done)
			}
			d.Fall(pick)
			// A disk that can do no step can be opened.
			d.Limit(0)
			m = opened(f.t, f.c, d)
			d.Limit(-1)
			now := bytesOf(f.t, m.State())
			if now != then && (done || now != was) {
				f.t.Fatalf("%d steps of %d, %v: %q, not %q or %q", n, all, pick, now, was, then)
			}
			if now == then {
				kept++
			} else {
				lost++
			}
			f.goesOn(d, m, pick)
		}
	}
	return kept, lost
}

// goesOn: whatever was broken off, what is done then lasts.
func (f fallen) goesOn(d *plate.Disk, m *image.Image, pick []int) {
	f.t.Helper()
	for range 2 {
		if !m.Tick(1) {
			f.t.Fatal("Tick")
		}
		want := bytesOf(f.t, m.State())
		d.Fall(pick)
		m = opened(f.t, f.c, d)
		if got := bytesOf(f.t, m.State()); got != want {
			f.t.Fatalf("behind the fall: %q, not %q", got, want)
		}
		if !m.Snapshot() {
			f.t.Fatal("Snapshot")
		}
		d.Fall(pick)
		m = opened(f.t, f.c, d)
		if got := bytesOf(f.t, m.State()); got != want {
			f.t.Fatalf("behind a snapshot and the fall: %q, not %q", got, want)
		}
	}
}

// P18.2: a call that is broken off at each step, whatever the plates hold then: it is there wholly, or not at all.
func TestP18_2EachStepOfDo(t *testing.T) {
	r := rand.New(rand.NewSource(4))
	sit := []deed{asked(login(), "t"), asked(call(1, api.Create{}), "")}
	for _, ahead := range [][]deed{sit, append(sit[:2:2], snapped()), append(sit[:2:2], snapped(), ticked(2), snapped())} {
		for _, last := range []deed{
			asked(call(2, api.Insert{Text: "ab"}), ""), asked(call(2, api.Insert{Text: "ab"}), strings.Repeat("x", 200)), asked(call(2, api.Insert{Text: "ab"}), strings.Repeat("x", 1900)),
			asked(call(2, api.Logout{}), ""), ticked(7),
		} {
			if kept, lost := (fallen{t, config(), ahead, last}).each(r); kept < 2 || lost < 4 {
				t.Error(kept, lost)
			}
		}
	}
}

// P18.2: a snapshot that is broken off at each step, whatever the plates hold then: the state stays as it is.
func TestP18_2EachStepOfSnapshot(t *testing.T) {
	r := rand.New(rand.NewSource(5))
	sit := []deed{asked(login(), "t"), asked(call(1, api.Create{}), ""), asked(call(2, api.Insert{Text: "hello"}), "")}
	for _, ahead := range [][]deed{
		nil, sit, append(sit[:3:3], snapped()), append(sit[:3:3], snapped(), asked(call(3, api.Delete{N: 2}), ""), snapped()),
		append(sit[:3:3], snapped(), snapped(), snapped(), asked(call(3, api.Logout{}), "")),
		append([]deed{snapped(), snapped()}, sit...),
	} {
		(fallen{t, config(), ahead, snapped()}).each(r)
	}
}

// P18.2: a call that finds no room in the ring, and makes a snapshot, broken off at each step of both.
func TestP18_2EachStepOfBoth(t *testing.T) {
	r := rand.New(rand.NewSource(6))
	for _, ahead := range [][]deed{
		{asked(login(), "t"), asked(call(1, api.Create{}), "")},
		{asked(login(), "t"), asked(call(1, api.Create{}), ""), snapped(), ticked(1), snapped(), ticked(1)},
		{snapped(), asked(login(), "t"), asked(call(1, api.Create{}), ""), ticked(1)},
	} {
		d, m := (fallen{t: t, c: config(), ahead: ahead}).up()
		was, _ := d.Get(0)
		title := was
		// Ticks of nothing, until there was no room for the last one.
		for n := 0; title == was && n < 40; n++ {
			m.Tick(0)
			ahead = append(ahead, ticked(0))
			title, _ = d.Get(0)
		}
		ahead = ahead[:len(ahead)-1]
		for _, last := range []deed{asked(call(2, api.Insert{Text: "ab"}), strings.Repeat("x", 200)), ticked(5)} {
			f := fallen{t, config(), ahead, last}
			if n := f.steps(); n < 8 {
				t.Error("no snapshot in", n, "steps")
			}
			if kept, lost := f.each(r); kept < 2 || lost < 20 {
				t.Error(kept, lost)
			}
		}
	}
}

// P18.2: broken off once, and then again, at each pair of steps, with nothing and with all that was laid.
func TestP18_2TwiceBroken(t *testing.T) {
	short, long := asked(call(2, api.Insert{Text: "one"}), ""), asked(call(2, api.Insert{Text: "two two"}), strings.Repeat("x", 150))
	rows := [][2]deed{{short, long}, {long, short}, {snapped(), short}, {short, snapped()}, {snapped(), snapped()}}
	picks := [][]int{nil, {1, 1, 1, 1, 1, 1}}
	f := fallen{t: t, c: config(), ahead: []deed{asked(login(), "t"), asked(call(1, api.Create{}), ""), snapped()}}
	for x := range len(rows) * 9 * 9 * 4 {
		row, steps, pick := rows[x%5], [2]int{x / 5 % 9, x / 45 % 9}, [2]int{x / 405 % 2, x / 810 % 2}
		d, m := f.up()
		w := f.world()
		for i, last := range row {
			after := twin(t, f.c, w)
			last.world(after)
			d.Limit(steps[i])
			done := last.image(m)
			d.Fall(picks[pick[i]])
			m = opened(t, f.c, d)
			now := bytesOf(t, m.State())
			if now == bytesOf(t, after.State()) {
				w = after
			} else if done || now != bytesOf(t, w.State()) {
				t.Fatal("neither of both states", x, i, done)
			}
		}
		f.goesOn(d, m, nil)
	}
}

// P18.2, P0.4: a call that is broken off and sent once more is done once, and answered as it was; its seat is there.
func TestP0_4OnceMore(t *testing.T) {
	c := config()
	for steps := range 6 {
		for pick := range 2 {
			d := disk(t, c)
			m := opened(t, c, d)
			m.Do(login(), "t")
			m.Do(call(1, api.Create{}), "")
			d.Limit(steps)
			first, done := m.Do(call(2, api.Insert{Text: "ab"}), "")
			if done != (steps >= 4) {
				t.Fatal(steps, done)
			}
			d.Fall([]int{pick})
			m = opened(t, c, d)
			if s := m.State().Seats; len(s) != 1 || s[0].Token != "t" {
				t.Fatal(s)
			}
			for range 3 {
				a, well := m.Do(call(2, api.Insert{Text: "ab"}), "")
				if !alike(a, api.Answer{Num: 2}) || !well || done && !alike(a, first) {
					t.Fatal(steps, pick, a, well)
				}
				d.Fall(nil)
				m = opened(t, c, d)
			}
			if s := m.State(); s.Docs[0].Segs[0].Text != "ab" || len(s.Audit) != 3 {
				t.Fatal(steps, pick, s)
			}
		}
	}
}

// P18.1, P18.2: what is laid comes in the order of the chapter: what is loose behind each step.
func TestP18_2OrderOfSteps(t *testing.T) {
	c := least()
	first := 1 + areaOf(c) // of the second area
	ring := 1 + 2*areaOf(c)
	ahead := []deed{asked(login(), strings.Repeat("t", 20))}
	for _, x := range []struct {
		last  deed
		loose [][]int
	}{
		{ticked(1), [][]int{{}, {ring + 3}, {}, {ring + 2}, {}}},
		{asked(api.Call{Ask: api.Logout{}}, strings.Repeat("x", 200)), [][]int{{}, {ring + 3}, {ring + 3, ring + 4}, {}, {ring + 2}, {}}},
		{snapped(), [][]int{{}, {first}, {first, first + 1}, {}, {0}, {}}},
	} {
		f := fallen{t, c, ahead, x.last}
		if n := f.steps(); n != len(x.loose)-1 {
			t.Errorf("%d steps, not %d", n, len(x.loose)-1)
		}
		for n, want := range x.loose {
			d, m := f.up()
			d.Limit(n)
			x.last.image(m)
			got := d.Loose()
			if len(got) != len(want) {
				t.Fatalf("%d steps: %v, not %v", n, got, want)
			}
			for i := range got {
				if got[i] != want[i] {
					t.Fatalf("%d steps: %v, not %v", n, got, want)
				}
			}
		}
	}
}

// P18.1, R3: what is refused leaves the world as it was, and so does what is broken off.
func TestR3(t *testing.T) {
	p := begun(t)
	was := bytesOf(t, p.i.State())
	for steps := range 4 {
		p.limit(steps)
		p.refuses(call(6, api.Insert{Text: "x"}), "", api.Down)
		p.tick(1, false)
		p.snapshot(false)
		p.refuses(call(6, api.Insert{Text: "x"}), "", api.Down)
		if got := bytesOf(t, p.i.State()); got != was {
			t.Fatalf("%q, not %q", got, was)
		}
		p.fall()
	}
	p.limit(0)
	p.refuses(api.Call{Ask: 5}, "", api.Bad)
	p.limit(4)
	p.does(call(6, api.Insert{Text: "x"}), "", ok)
}
