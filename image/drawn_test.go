package image_test

import (
	"math/rand"
	"slices"
	"strings"
	"testing"

	"chancel/acts"
	"chancel/api"
	"chancel/image"
	"chancel/plate"
	"chancel/salt"
)

// drawnConfig: up to three users a, b and c, whose passwords are their names.
func drawnConfig(r *rand.Rand) api.Config {
	c := api.Config{
		Quota: 1 + r.Intn(60), Segs: 1 + r.Intn(5), Docs: 1 + r.Intn(3), Depth: 1 + r.Intn(2), Seats: 1 + r.Intn(2),
		Audit: []int{1, 3, 10, 100}[r.Intn(4)], Ttl: r.Intn(60),
	}
	users := 1 + r.Intn(3)
	for i := range users {
		name := string(rune('a' + i))
		c.Users = append(c.Users, api.User{Name: name, Seal: salt.Seal("", name)})
	}
	for i := range 1 + r.Intn(3) {
		x := api.Label{Parent: r.Intn(i+1) - 1, Owner: r.Intn(users)}
		for u := range users {
			if r.Intn(4) > 0 {
				x.Readers = append(x.Readers, u)
			}
			if r.Intn(4) > 0 {
				x.Writers = append(x.Writers, u)
			}
		}
		c.Labels = append(c.Labels, x)
	}
	return c
}

// drawnText: of up to n letters, some of several bytes, few that aren't right.
func drawnText(r *rand.Rand, n int) string {
	var b strings.Builder
	for range r.Intn(n + 1) {
		b.WriteString([]string{"a", "b", "ä", "€", "𝄞"}[r.Intn(5)])
	}
	if r.Intn(30) == 0 {
		b.WriteByte(0xff)
	}
	return b.String()
}

// drawnAsk: with small numbers, most of which are there.
func drawnAsk(r *rand.Rand) any {
	n := func() int { return r.Intn(5) - r.Intn(2)*r.Intn(2) }
	switch r.Intn(20) {
	case 0:
		return api.Logout{}
	case 1, 2:
		return api.Create{Label: n()}
	case 3, 4, 5, 6:
		return api.Insert{Doc: r.Intn(2), Seg: n(), At: n(), Text: drawnText(r, 9)}
	case 7, 8:
		return api.Delete{Doc: r.Intn(2), Seg: n(), At: n(), N: n()}
	case 9:
		return api.Protect{Doc: n(), Seg: n(), At: n(), N: n(), Label: n()}
	case 10:
		return api.Copy{Doc: r.Intn(2), Seg: n(), At: n(), N: n(), ToDoc: r.Intn(2), After: n()}
	case 11:
		return api.Fork{Doc: n()}
	case 12:
		return api.Snap{Doc: n()}
	case 13, 14:
		return api.Unmake{Doc: r.Intn(2)}
	case 15:
		return api.View{Doc: n(), From: n(), N: r.Intn(50)}
	case 16:
		return api.Where{Doc: n(), Offset: n()}
	case 17:
		return api.Flat{Doc: n(), Seg: n(), At: n()}
	case 18:
		return api.Grant{Label: n(), User: n(), Write: r.Intn(2) == 0, On: r.Intn(2) == 0}
	}
	return api.Log{From: n(), N: r.Intn(12)}
}

// drawnCall: a call and its draw, for a house that has the state s.
func drawnCall(r *rand.Rand, s api.State) (api.Call, string) {
	x := r.Intn(20)
	if len(s.Seats) == 0 || x < 2 {
		name := string(rune('a' + r.Intn(3)))
		password := []string{name, name, name, "x"}[r.Intn(4)]
		return api.Call{Ask: api.Login{User: name, Password: password}}, []string{"t", "u", "v", "", strings.Repeat("w", 21)}[r.Intn(5)]
	}
	if x == 2 {
		return api.Call{Token: "nobody", Seq: 1, Ask: drawnAsk(r)}, ""
	}
	seat := s.Seats[r.Intn(len(s.Seats))]
	return api.Call{Token: seat.Token, Seq: seat.Seq + []int{1, 1, 1, 1, 7, 0, -1}[r.Intn(7)], Ask: drawnAsk(r)}, strings.Repeat("x", r.Intn(3)*r.Intn(200))
}

// picks: of n loose plates.
func picks(r *rand.Rand, n int) []int {
	l := make([]int, r.Intn(n+2))
	for k := range l {
		l[k] = r.Intn(4) - 1
	}
	return l
}

// drawn does one call, drawn at random, with the image and the model.
func (p *pair) drawn(r *rand.Rand) {
	p.t.Helper()
	switch x := r.Intn(40); {
	case x < 24:
		p.do(drawnCall(r, p.m.w.State()))
	case x < 29:
		p.tickAny(r.Intn(20) - 1)
	case x < 31:
		p.snapshotAny()
	case x < 33:
		p.limit(r.Intn(40) - 1)
	case x < 34:
		p.fall(picks(r, 9)...)
	case x < 36 && p.d.On():
		p.opens(ok)
	case x < 37:
		p.do(api.Call{Token: "t", Ask: api.Logout{}}, strings.Repeat("x", 1900+r.Intn(200)))
	case x < 38:
		p.do(api.Call{Ask: []any{nil, 5, &api.Logout{}, "Login"}[r.Intn(4)]}, "t")
	default:
		p.same("calls")
	}
	// Off for long is dull.
	if !p.d.On() && r.Intn(3) == 0 {
		p.fall(picks(r, 9)...)
	}
}

// tickAny: a Tick that may or may not be done.
func (p *pair) tickAny(n int) {
	p.t.Helper()
	if got, want := p.i.Tick(n), p.m.tick(n); got != want {
		p.t.Fatalf("Tick %d: %v, not %v", n, got, want)
	}
	p.same("Tick")
}

// snapshotAny: a Snapshot that may or may not be made.
func (p *pair) snapshotAny() {
	p.t.Helper()
	if got, want := p.i.Snapshot(), p.m.snapshot(); got != want {
		p.t.Fatalf("Snapshot: %v, not %v", got, want)
	}
	p.same("Snapshot")
}

// P18.1: drawn calls, in any order, held against the model, plate by plate.
func TestP18_1Drawn(t *testing.T) {
	r := rand.New(rand.NewSource(1))
	for range 150 {
		p := newPair(t, drawnConfig(r))
		for range 120 {
			p.drawn(r)
		}
	}
}

// opened: the image that d holds.
func opened(t *testing.T, c api.Config, d *plate.Disk) *image.Image {
	t.Helper()
	m, s := image.Open(c, d)
	if m == nil || s != ok {
		t.Fatalf("Open: %v, %d", m, s)
	}
	return m
}

// P18.1: drawn calls, held against a world that doesn't know a disk; it is opened anew, and told to make snapshots, at any time. Nothing is refused for want of room.
func TestP18_1AsAWorld(t *testing.T) {
	r := rand.New(rand.NewSource(2))
	for range 80 {
		c := drawnConfig(r)
		w, _ := acts.New(c)
		d := disk(t, c)
		m := opened(t, c, d)
		for range 300 {
			switch x := r.Intn(40); {
			case x < 4:
				n := r.Intn(30) - 5
				w.Tick(n)
				if !m.Tick(n) {
					t.Fatal("Tick")
				}
			case x < 6:
				if !m.Snapshot() {
					t.Fatal("Snapshot")
				}
			case x < 8:
				d.Fall(picks(r, 9))
				m = opened(t, c, d)
			default:
				asked, draw := drawnCall(r, w.State())
				want, _ := w.Do(asked, draw)
				if got, done := m.Do(asked, draw); !alike(got, want) || !done {
					t.Fatalf("%+v: %+v, %v, not %+v", asked, got, done, want)
				}
			}
			if bytesOf(t, m.State()) != bytesOf(t, w.State()) {
				t.Fatal("states are unlike")
			}
		}
	}
}

// twin: a world of its own with the state of w.
func twin(t *testing.T, c api.Config, w *acts.World) *acts.World {
	t.Helper()
	other, well := acts.Load(c, w.State())
	if !well {
		t.Fatal("no world")
	}
	return other
}

// broken: what a drawn thing has come to, whose disk may have gone off in it: the worlds that may be there behind a fall.
func broken(t *testing.T, r *rand.Rand, c api.Config, m *image.Image, w *acts.World) []*acts.World {
	t.Helper()
	after := twin(t, c, w)
	done := false
	switch x := r.Intn(12); {
	case x < 2:
		after.Tick(1 + x)
		done = m.Tick(1 + x)
	case x < 4:
		m.Snapshot()
	default:
		asked, draw := drawnCall(r, w.State())
		want, _ := after.Do(asked, draw)
		var got api.Answer
		if got, done = m.Do(asked, draw); done && !alike(got, want) || !done && !alike(got, api.Answer{Status: api.Down}) {
			t.Fatalf("%+v: %+v, %v, not %+v", asked, got, done, want)
		}
	}
	if done {
		return []*acts.World{after}
	}
	return []*acts.World{w, after}
}

// P18.2: over and over again the disk goes off, in calls, Ticks and Snapshots, and holds what is drawn.
func TestP18_2Drawn(t *testing.T) {
	r := rand.New(rand.NewSource(3))
	kept, lost := 0, 0
	for range 250 {
		c := drawnConfig(r)
		w, _ := acts.New(c)
		d := disk(t, c)
		m := opened(t, c, d)
		for range 80 {
			if r.Intn(3) == 0 {
				d.Limit(r.Intn([]int{6, 25}[r.Intn(2)]))
			}
			may := broken(t, r, c, m, w)
			if d.On() && r.Intn(20) > 0 {
				w = may[0]
				continue
			}
			d.Fall(picks(r, 30))
			// No step is left, and none is wanted.
			d.Limit(0)
			m = opened(t, c, d)
			d.Limit(-1)
			now := bytesOf(t, m.State())
			i := slices.IndexFunc(may, func(x *acts.World) bool { return bytesOf(t, x.State()) == now })
			if i < 0 {
				t.Fatal("neither of both states")
			}
			if len(may) == 2 && bytesOf(t, may[0].State()) != bytesOf(t, may[1].State()) {
				kept, lost = kept+i, lost+1-i
			}
			w = may[i]
		}
	}
	if kept < 100 || lost < 100 {
		t.Error("too few of one kind:", kept, lost)
	}
}
