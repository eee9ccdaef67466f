package acts_test

import (
	"math"
	"reflect"
	"slices"
	"strings"
	"testing"
	"unicode/utf8"

	"chancel/acts"
	"chancel/api"
	"chancel/state"
	"chancel/words"
)

func TestP15_1NewLoad(t *testing.T) {
	w, ok := acts.New(config())
	if !ok || !same(w.State(), state.Fresh(config())) {
		t.Errorf("New: %v, %+v", ok, w.State())
	}
	for _, c := range wrongConfigs() {
		if w, ok := acts.New(c); ok || w != nil {
			t.Errorf("New(%+v): %v, %v", c, w, ok)
		}
		if w, ok := acts.Load(c, begun()); ok || w != nil {
			t.Errorf("Load(%+v): %v, %v", c, w, ok)
		}
	}
	if got := loaded(t, config(), full(t)).State(); !same(got, full(t)) {
		t.Errorf("Load: %+v, not %+v", got, full(t))
	}
	for i, change := range []func(s *api.State){
		func(s *api.State) { s.Now = -1 },
		func(s *api.State) { s.Mark = 0 },
		func(s *api.State) { s.Next = 3 },
		func(s *api.State) { s.Labels[1].Parent = -1 },
		func(s *api.State) { s.Docs[0].Segs[0].Text = "\xff" },
		func(s *api.State) { s.Docs[0].Segs[0].Text = strings.Repeat("a", 21) },
		func(s *api.State) { s.Stacks = s.Stacks[:2] },
		func(s *api.State) { s.Stacks[0][0].Kind = 3 },
		func(s *api.State) { s.Stacks[0][0].Doc = 3 },
		func(s *api.State) { s.Seats[0].Answer = "a" },
		func(s *api.State) { s.Audit[0].User = 3 },
	} {
		s := full(t)
		change(&s)
		if w, ok := acts.Load(config(), s); ok || w != nil {
			t.Errorf("Load of wrong state %d: %v, %v", i, w, ok)
		}
	}
	if w, ok := acts.Load(config(), api.State{}); ok || w != nil {
		t.Error("Load of no state")
	}
}

func wrongConfigs() []api.Config {
	l := []api.Config{{}}
	for _, change := range []func(c *api.Config){
		func(c *api.Config) { c.Users = nil },
		func(c *api.Config) { c.Users[0].Name = "" },
		func(c *api.Config) { c.Labels = nil },
		func(c *api.Config) { c.Labels[0].Owner = 3 },
		func(c *api.Config) { c.Quota = 1001 },
		func(c *api.Config) { c.Segs = 0 },
		func(c *api.Config) { c.Docs = 9 },
		func(c *api.Config) { c.Depth = 5 },
		func(c *api.Config) { c.Seats = 0 },
		func(c *api.Config) { c.Audit = 101 },
		func(c *api.Config) { c.Ttl = -1 },
	} {
		c := config()
		change(&c)
		l = append(l, c)
	}
	return l
}

// full: begun, with something of everything that a state may have.
func full(t *testing.T) api.State {
	t.Helper()
	s := begun()
	s.Docs[0].Segs[0].Spans = []api.Span{{Mark: 7, From: 0, To: 2}, {Mark: 8, From: 2, To: 4}}
	s.Docs[0].Segs[0].Sites = []api.Site{{Mark: 9, At: 0}, {Mark: 10, At: 5}}
	s.Stacks[0] = []api.Undo{{Kind: 1, Mark: 7}, {Kind: 2, Mark: 9, Text: "€"}}
	s.Stacks[1] = []api.Undo{{Kind: 1, Doc: 0, Mark: 8}}
	told, ok := words.Answer(api.Answer{Num: 3, Runs: []api.Run{{Id: 1, Label: 2, Open: true, Text: "a"}}, Entries: []api.Entry{{User: 1, Segs: []int{4}}}})
	if !ok {
		t.Fatal("no bytes")
	}
	s.Seats[0].Seq, s.Seats[0].Answer = 4, told
	s.Audit = []api.Entry{{User: 0, Op: 4, Segs: []int{0}, Labels: []int{0}}, {User: -1, Op: 1, Status: api.Denied}}
	return s
}

func TestP15_1Login(t *testing.T) {
	ann, bob := api.Login{User: "ann", Password: "x"}, api.Login{User: "bob", Password: "y"}
	ok20 := strings.Repeat("d", 20)
	for _, x := range []struct {
		ask    api.Login
		draw   string
		seats  int
		now    int
		status int
		user   int
		left   string
	}{
		{ann, "d", 4, 5, api.Ok, 0, "abcd"},
		{bob, ok20, 4, 5, api.Ok, 1, "abc" + ok20},
		{bob, "d", 4, 14, api.Ok, 1, "abd"},
		// Who is past makes room, and their token may be had again.
		{ann, "c", 3, 14, api.Ok, 0, "abc"},
		{ann, "c", 3, 13, api.Busy, 0, "abc"},
		{ann, "", 3, 5, api.Busy, 0, "abc"},
		{ann, ok20 + "d", 4, 5, api.Busy, 0, "abc"},
		{ann, ok20 + "d", 3, 5, api.Busy, 0, "abc"},
		{ann, strings.Repeat("d", 70000), 4, 5, api.Busy, 0, "abc"},
		{bob, "d", 3, 13, api.Full, 1, "abc"},
		// What isn't opened leaves those that are past, too.
		{bob, "", 3, 14, api.Busy, 1, "abc"},
		{api.Login{User: "ann", Password: "y"}, "", 3, 5, api.Denied, -1, "abc"},
		{api.Login{User: "ann"}, "d", 3, 5, api.Denied, -1, "abc"},
		{api.Login{User: "dan", Password: "x"}, "d", 4, 14, api.Denied, -1, "abc"},
		{api.Login{User: "", Password: ""}, "d", 4, 5, api.Denied, -1, "abc"},
	} {
		c, s := config(), begun()
		c.Seats, s.Now, s.Seats[2].Used = x.seats, x.now, 3
		s.Seats[0].Used, s.Seats[1].Used = 5, 5
		w := loaded(t, c, s)
		want := api.Answer{Status: x.status}
		if x.status == api.Ok {
			want.Token = x.draw
		}
		// The token and the number of the call play no part.
		got, changed := w.Do(api.Call{Token: "b", Seq: -7, Ask: x.ask}, x.draw)
		if !same(got, want) || !changed {
			t.Errorf("%+v, %q: %+v, %v", x.ask, x.draw, got, changed)
		}
		after := w.State()
		left := ""
		for _, seat := range after.Seats {
			left += seat.Token
		}
		if want := append(s.Audit, api.Entry{User: x.user, Op: 1, Status: x.status}); left != x.left || !same(after.Audit, want) {
			t.Errorf("%+v, %q: %q, %+v", x.ask, x.draw, left, after.Audit)
		}
		if x.status == api.Ok && after.Seats[len(after.Seats)-1] != (api.Seat{Token: x.draw, User: x.user, Used: x.now}) {
			t.Errorf("%+v, %q: %+v", x.ask, x.draw, after.Seats)
		}
		after.Audit, after.Seats = s.Audit, s.Seats
		if !same(after, s) {
			t.Errorf("%+v, %q: %+v", x.ask, x.draw, after)
		}
	}
}

// unchanged does a call that must change nothing.
func unchanged(t *testing.T, c api.Config, s api.State, call api.Call, draw string, want api.Answer) {
	t.Helper()
	w := loaded(t, c, s)
	got, changed := w.Do(call, draw)
	if !same(got, want) || changed || !same(w.State(), s) {
		t.Errorf("%+v: %+v, %v, not %+v; %+v", call, got, changed, want, w.State())
	}
}

func TestP15_1R1Sessions(t *testing.T) {
	c, s := config(), full(t)
	s.Now, s.Seats[1].Used, s.Seats[1].Seq = 14, 4, math.MaxInt-1
	kept, _ := words.Told(s.Seats[0].Answer)
	s.Seats[0].Used = 4
	crowded := c
	crowded.Audit = 2
	for _, c := range []api.Config{c, crowded} {
		for _, x := range []struct {
			token  string
			seq    int
			ask    any
			status int
		}{
			{"a", 5, nil, api.Bad},
			{"z", 5, 7, api.Bad},
			{"a", 4, &api.Create{}, api.Bad},
			{"z", 5, api.Create{}, api.Token},
			{"", 5, api.Logout{}, api.Token},
			{"c", 5, api.Create{}, api.Token},
			{"c", 0, api.Create{}, api.Token},
			{"a", 3, api.Create{}, api.Old},
			{"a", math.MinInt, api.Create{}, api.Old},
			// No answer is kept yet.
			{"b", math.MaxInt - 1, api.Create{}, api.Old},
			{"b", 7, api.Create{}, api.Old},
		} {
			unchanged(t, c, s, api.Call{Token: x.token, Seq: x.seq, Ask: x.ask}, "", api.Answer{Status: x.status})
		}
		// Whatever is asked with that number.
		for _, ask := range []any{api.Create{}, api.Logout{}, api.Log{N: 3}} {
			unchanged(t, c, s, api.Call{Token: "a", Seq: 4, Ask: ask}, "", kept)
		}
	}
	trial{c, s, "b", api.Create{}, api.Answer{Num: 3, At: 10}, []int{10}, []int{0}}.run(t)
}

func TestP15_1Full(t *testing.T) {
	const most = 1<<40 - 100
	login := api.Login{User: "ann", Password: "x"}
	for _, x := range []struct {
		change func(c *api.Config, s *api.State)
		full   bool
	}{
		{func(c *api.Config, s *api.State) {}, false},
		{func(c *api.Config, s *api.State) { s.Next = most }, false},
		{func(c *api.Config, s *api.State) { s.Next = most + 1 }, true},
		{func(c *api.Config, s *api.State) { s.Next = 1 << 40 }, true},
		{func(c *api.Config, s *api.State) { s.Mark = most }, false},
		{func(c *api.Config, s *api.State) { s.Mark = most + 1 }, true},
		{func(c *api.Config, s *api.State) { s.Mark = 1 << 40 }, true},
		{func(c *api.Config, s *api.State) { c.Audit = 3 }, false},
		{func(c *api.Config, s *api.State) { c.Audit = 2 }, true},
	} {
		c, s := config(), full(t)
		x.change(&c, &s)
		if x.full {
			answer := api.Answer{Status: api.Full}
			unchanged(t, c, s, api.Call{Token: "b", Seq: 1, Ask: api.View{N: 9}}, "", answer)
			unchanged(t, c, s, api.Call{Token: "b", Seq: 1, Ask: api.Logout{}}, "", answer)
			unchanged(t, c, s, api.Call{Token: "b", Seq: 1, Ask: api.Unmake{Doc: 9}}, "", answer)
			unchanged(t, c, s, api.Call{Ask: login}, "d", answer)
			unchanged(t, c, s, api.Call{Ask: api.Login{User: "dan"}}, "", answer)
			continue
		}
		w := loaded(t, c, s)
		if a, ok := w.Do(api.Call{Ask: login}, "d"); !same(a, api.Answer{Token: "d"}) || !ok {
			t.Errorf("login: %+v", a)
		}
		trial{c, s, "b", api.Fork{}, api.Answer{Num: 3}, nil, nil}.run(t)
		trial{c, s, "b", api.Delete{}, api.Answer{}, []int{0}, []int{0}}.run(t)
	}
	// As many numbers as one call may take, from the last beginning on.
	c, s := config(), begun()
	c.Segs, s.Next = 24, most
	s.Docs = append(s.Docs[:1], api.Doc{})
	for i := range 9 {
		s.Docs[0].Segs = append(s.Docs[0].Segs, api.Seg{Id: 10 + i})
	}
	after := trial{c, s, "c", api.Fork{}, api.Answer{Num: 2}, nil, nil}.run(t)
	if after.Next != most+12 || !state.Right(c, after) {
		t.Errorf("%+v", after)
	}
}

func TestP15_1Logout(t *testing.T) {
	w := loaded(t, config(), begun())
	if a, ok := w.Do(api.Call{Token: "b", Seq: 9, Ask: api.Logout{}}, ""); !same(a, api.Answer{}) || !ok {
		t.Errorf("Logout: %+v, %v", a, ok)
	}
	want := begun()
	want.Seats = []api.Seat{want.Seats[0], want.Seats[2]}
	want.Audit = []api.Entry{{User: 1, Op: 2}}
	if got := w.State(); !same(got, want) {
		t.Errorf("Logout: %+v, not %+v", got, want)
	}
	if a, ok := w.Do(api.Call{Token: "b", Seq: 10, Ask: api.Logout{}}, ""); a.Status != api.Token || ok {
		t.Errorf("Logout once more: %+v, %v", a, ok)
	}
}

// table: a world, and those who call, with numbers that go up.
type table struct {
	t *testing.T
	w *acts.World
	n int
}

// does asks, and must come to that status.
func (x *table) does(token string, ask any, status int) api.Answer {
	x.t.Helper()
	x.n++
	a, _ := x.w.Do(api.Call{Token: token, Seq: x.n, Ask: ask}, "")
	if a.Status != status {
		x.t.Errorf("%s: %T%+v: %+v", token, ask, ask, a)
	}
	return a
}

// noted: the last entry must be about these.
func (x *table) noted(segs, labels []int) {
	x.t.Helper()
	l := x.w.State().Audit
	if e := l[len(l)-1]; !same(e.Segs, segs) || !same(e.Labels, labels) {
		x.t.Errorf("noted %+v", e)
	}
}

// is: the segments of a document must be those, text by text; marks are told apart by is.
func (x *table) is(doc int, texts ...string) {
	x.t.Helper()
	var l []string
	for _, s := range x.w.State().Docs[doc].Segs {
		l = append(l, s.Text)
	}
	if !slices.Equal(l, texts) {
		x.t.Errorf("%q, not %q", l, texts)
	}
}

func sit(t *testing.T, c api.Config, s api.State) *table {
	t.Helper()
	return &table{t: t, w: loaded(t, c, s)}
}

func TestP15_1Examples(t *testing.T) {
	w, _ := acts.New(config())
	if a, ok := w.Do(api.Call{Ask: api.Login{User: "ann", Password: "x"}}, "a"); a.Status != api.Ok || a.Token != "a" || !ok {
		t.Fatal(a)
	}
	x := &table{t: t, w: w}
	if a := x.does("a", api.Create{}, api.Ok); a.Num != 0 || a.At != 0 {
		t.Error(a)
	}
	x.does("a", api.Insert{Text: "abc"}, api.Ok)
	x.does("a", api.Delete{At: 1, N: 1}, api.Ok)
	x.is(0, "ac")
	x.does("a", api.Unmake{}, api.Ok)
	x.is(0, "abc")
	// Not "" as the example ends: what was put back has no mark, says layer 5, so that it stays when the insertion is undone.
	x.does("a", api.Unmake{}, api.Ok)
	x.is(0, "b")
	x.does("a", api.Unmake{}, api.Nothing)
}

// The first six examples of the whole.
func TestP0_3Examples(t *testing.T) {
	x := sit(t, config(), begun())
	x.does("a", api.Create{}, api.Ok)
	x.does("a", api.Insert{Doc: 3, Seg: 10, Text: "hello world"}, api.Ok)
	x.does("b", api.Insert{Doc: 3, Seg: 10, At: 5, Text: ","}, api.Ok)
	x.does("a", api.Protect{Doc: 3, Seg: 10, At: 5, N: 1, Label: 1}, api.Ok)
	if a := x.does("b", api.View{Doc: 3, N: 99}, api.Ok); !same(a.Runs, []api.Run{
		{Id: 10, Open: true, Text: "hello"}, {Id: 11, Label: 1}, {Id: 12, Open: true, Text: " world"},
	}) {
		t.Errorf("%+v", a)
	}
	x.does("b", api.Unmake{Doc: 3}, api.Ok)
	x.noted(nil, []int{0})
	x.is(3, "hello", ",", " world")
	x.does("b", api.Insert{Doc: 3, Seg: 12, Text: strings.Repeat("a", 15)}, api.Full)
	x.does("b", api.Unmake{Doc: 3}, api.Ok)
	x.is(3, "hello", ",", " world")
	x.does("b", api.Unmake{Doc: 3}, api.Nothing)
	x.does("a", api.Snap{Doc: 2}, api.Full)
	x.does("b", api.Insert{Doc: 1, Seg: 3, Text: "x"}, api.Frozen)
	x.does("b", api.Copy{Doc: 1, Seg: 3, N: 9, ToDoc: 3, After: 10}, api.Ok)
	x.is(3, "hello", "abc", ",", " world")
	x.does("a", api.Grant{Label: 1, User: 1, On: true}, api.Ok)
	if a := x.does("b", api.View{Doc: 3, N: 99}, api.Ok); len(a.Runs) != 4 || a.Runs[2] != (api.Run{Id: 11, Label: 1, Open: true, Text: ","}) {
		t.Errorf("%+v", a)
	}
}

// What falls out of a stack is forgotten: its text stays, without the mark, and can't be undone.
func TestP15_1Depth(t *testing.T) {
	for depth := 1; depth <= api.MaxDepth; depth++ {
		c := config()
		c.Depth = depth
		x := sit(t, c, begun())
		want := ""
		for i := range depth + 2 {
			x.does("a", api.Insert{At: 99, Text: string(rune('0' + i))}, api.Ok)
			if i < 2 {
				want += string(rune('0' + i))
			}
		}
		if l := x.w.State(); len(l.Stacks[0]) != depth || len(l.Docs[0].Segs[0].Spans) != depth {
			t.Errorf("depth %d: %+v", depth, l)
		}
		for range depth {
			x.does("a", api.Unmake{}, api.Ok)
			x.noted([]int{0}, []int{0})
		}
		x.does("a", api.Unmake{}, api.Nothing)
		x.noted(nil, nil)
		x.is(0, "hello"+want, "secret", "cold")
		if s := x.w.State().Docs[0].Segs[0]; len(s.Spans)+len(s.Sites) > 0 {
			t.Errorf("depth %d: %+v", depth, s)
		}
	}
}

// A thing that falls out is forgotten in its own document, wherever what pushes it out is done, and also by one that finds no room.
func TestP15_1DepthElsewhere(t *testing.T) {
	c := config()
	c.Depth = 1
	x := sit(t, c, begun())
	x.does("a", api.Create{}, api.Ok)
	x.does("a", api.Insert{At: 2, Text: "xy"}, api.Ok)
	x.does("a", api.Protect{At: 3, N: 0, Label: 1}, api.Ok)
	x.is(0, "hex", "", "yllo", "secret", "cold")
	x.does("b", api.Delete{Seg: 12, At: 1, N: 1}, api.Ok)
	x.does("a", api.Insert{Doc: 3, Seg: 10, Text: strings.Repeat("z", 21)}, api.Full)
	s := x.w.State()
	for _, seg := range s.Docs[0].Segs {
		if len(seg.Spans) > 0 {
			t.Errorf("not forgotten: %+v", seg)
		}
	}
	if want := []api.Site{{Mark: 21, At: 1}}; !same(s.Docs[0].Segs[2].Sites, want) {
		t.Errorf("another one's is forgotten: %+v", s.Docs)
	}
	x.does("a", api.Unmake{}, api.Nothing)
	x.does("a", api.Unmake{Doc: 3}, api.Ok)
	x.noted(nil, []int{0})
	x.does("b", api.Delete{Doc: 3, Seg: 10}, api.Ok)
	if s := x.w.State(); len(s.Docs[0].Segs[2].Sites) > 0 || len(s.Docs[3].Segs[0].Sites) != 1 {
		t.Errorf("not forgotten: %+v", s.Docs)
	}
}

// Both sides of a part are undone with what was put there, and what was taken comes back where its place is.
func TestP15_1Unmake(t *testing.T) {
	x := sit(t, config(), begun())
	x.does("a", api.Insert{At: 2, Text: "1234"}, api.Ok)
	x.does("b", api.Insert{At: 4, Text: "_"}, api.Ok)
	x.does("a", api.Protect{At: 4, N: 1, Label: 2}, api.Ok)
	x.is(0, "he12", "_", "34llo", "secret", "cold")
	x.does("a", api.Delete{Seg: 11, At: 4, N: 1}, api.Ok)
	x.does("b", api.Insert{Seg: 11, At: 4, Text: "p"}, api.Ok)
	x.is(0, "he12", "_", "34llp", "secret", "cold")
	x.does("a", api.Unmake{}, api.Ok)
	x.noted([]int{11}, []int{0})
	x.is(0, "he12", "_", "34llop", "secret", "cold")
	x.does("a", api.Unmake{}, api.Ok)
	x.noted([]int{0, 11}, []int{0})
	x.is(0, "he", "_", "llop", "secret", "cold")
	x.does("a", api.Unmake{}, api.Nothing)
	x.does("b", api.Unmake{}, api.Ok)
	x.does("b", api.Unmake{}, api.Ok)
	x.noted(nil, []int{0})
	x.is(0, "he", "_", "llo", "secret", "cold")
}

// What was taken finds no room: the thing is dropped, its mark forgotten, and nothing is put.
func TestP15_1UnmakeFull(t *testing.T) {
	for _, more := range []int{17, 18} {
		x := sit(t, config(), begun())
		x.does("a", api.Delete{At: 1, N: 3}, api.Ok)
		x.does("b", api.Insert{At: 9, Text: strings.Repeat("z", more-2)}, api.Ok)
		if more == 17 {
			x.does("a", api.Unmake{}, api.Ok)
			x.is(0, "hello"+strings.Repeat("z", 15), "secret", "cold")
		} else {
			x.does("a", api.Unmake{}, api.Full)
			x.is(0, "ho"+strings.Repeat("z", 16), "secret", "cold")
		}
		x.noted([]int{0}, []int{0})
		if s := x.w.State(); len(s.Docs[0].Segs[0].Sites) > 0 || len(s.Stacks[0]) > 0 {
			t.Errorf("%+v", s)
		}
		x.does("a", api.Unmake{}, api.Nothing)
	}
}

// Whose label may not be edited any more can't be undone; the thing stays, and can be when it may be again.
func TestP15_2UnmakeDenied(t *testing.T) {
	for _, write := range []bool{false, true} {
		x := sit(t, config(), begun())
		x.does("b", api.Insert{Text: "x"}, api.Ok)
		x.does("b", api.Delete{At: 3, N: 1}, api.Ok)
		x.does("a", api.Grant{User: 1, Write: write}, api.Ok)
		before := x.w.State()
		x.does("b", api.Unmake{}, api.Denied)
		x.noted([]int{0}, []int{0})
		x.does("b", api.Insert{Text: "x"}, api.Denied)
		x.does("b", api.Delete{N: 1}, api.Denied)
		if after := x.w.State(); !same(after.Docs, before.Docs) || !same(after.Stacks, before.Stacks) {
			t.Errorf("%+v", after)
		}
		x.does("a", api.Grant{User: 1, Write: write, On: true}, api.Ok)
		x.does("b", api.Unmake{}, api.Ok)
		x.does("b", api.Unmake{}, api.Ok)
		x.is(0, "hello", "secret", "cold")
	}
}

// States that no call makes, but that are right: one mark in several segments, of things of each kind, and twice in a stack.
func TestP15_1UnmakeOdd(t *testing.T) {
	seg := func(id int, spans []api.Span, sites []api.Site) api.Seg {
		return api.Seg{Id: id, Text: "hello", Spans: spans, Sites: sites}
	}
	span, site := []api.Span{{Mark: 7, From: 1, To: 2}}, []api.Site{{Mark: 7, At: 2}, {Mark: 7, At: 4}}
	for _, x := range []struct {
		undo   []api.Undo
		segs   []api.Seg
		status int
		left   int
		want   []api.Seg
	}{
		{[]api.Undo{{Kind: 1, Mark: 7}}, []api.Seg{seg(0, span, site), seg(1, nil, site)}, api.Ok, 0,
			[]api.Seg{{Id: 0, Text: "hllo"}, seg(1, nil, nil)}},
		{[]api.Undo{{Kind: 2, Mark: 7, Text: "xy"}}, []api.Seg{seg(0, span, site), seg(1, span, site)}, api.Ok, 0,
			[]api.Seg{{Id: 0, Text: "hexyllo"}, seg(1, span, site)}},
		{[]api.Undo{{Kind: 2, Mark: 7, Text: "xy"}}, []api.Seg{seg(0, span, nil), seg(1, span, site)}, api.Full, 0,
			[]api.Seg{seg(0, nil, nil), seg(1, nil, nil)}},
		{[]api.Undo{{Kind: 1, Doc: 1, Mark: 7}, {Kind: 2, Mark: 7, Text: "xy"}}, []api.Seg{seg(0, nil, nil)}, api.Ok, 0,
			[]api.Seg{seg(0, nil, nil)}},
		{[]api.Undo{{Kind: 1, Mark: 7}, {Kind: 2, Doc: 1, Mark: 8}}, []api.Seg{seg(0, span, nil)}, api.Ok, 1,
			[]api.Seg{{Id: 0, Text: "hllo"}}},
	} {
		s := begun()
		s.Docs[0].Segs, s.Stacks[0] = x.segs, x.undo
		w := sit(t, config(), s)
		w.does("a", api.Unmake{}, x.status)
		if got := w.w.State(); !same(got.Docs[0].Segs, x.want) || len(got.Stacks[0]) != x.left {
			t.Errorf("%+v of %+v: %+v, %+v", x.undo, x.segs, got.Docs[0].Segs, got.Stacks)
		}
		m := modelOf(config(), s)
		m.do(api.Call{Token: "a", Seq: 1, Ask: api.Unmake{}}, "")
		if !same(m.state(), w.w.State()) {
			t.Errorf("the model has %+v, not %+v", m.state(), w.w.State())
		}
	}
}

// A call that is sent once more is answered as it was, and done once.
func TestP15_1Again(t *testing.T) {
	for _, ask := range []any{
		api.Create{Label: 1}, api.Create{Label: 9}, api.Insert{Text: "x"}, api.Insert{Text: "\xff"}, api.Delete{N: 2}, api.Protect{N: 2, Label: 1},
		api.Copy{N: 3, After: 1}, api.Fork{}, api.Snap{Doc: 1}, api.Unmake{}, api.View{N: 99}, api.Where{Offset: 4}, api.Flat{Seg: 1},
		api.Grant{User: 2, Write: true, On: true}, api.Log{N: 10},
	} {
		s := begun()
		s.Audit = full(t).Audit
		w := loaded(t, config(), s)
		first, ok := w.Do(api.Call{Token: "a", Seq: 1 << 60, Ask: ask}, "")
		if !ok {
			t.Errorf("%+v: nothing has changed", ask)
		}
		told, _ := words.Answer(first)
		before := w.State()
		if seat := before.Seats[0]; seat.Seq != 1<<60 || seat.Used != 5 || seat.Answer != told {
			t.Errorf("%+v: %+v", ask, seat)
		}
		for range 2 {
			if a, ok := w.Do(api.Call{Token: "a", Seq: 1 << 60, Ask: api.Create{}}, "z"); !same(a, first) || ok {
				t.Errorf("%+v: once more %+v, not %+v", ask, a, first)
			}
		}
		if !same(w.State(), before) {
			t.Errorf("%+v: done twice: %+v", ask, w.State())
		}
		if a, ok := w.Do(api.Call{Token: "a", Seq: 1<<60 - 1, Ask: ask}, ""); a.Status != api.Old || ok {
			t.Errorf("%+v: %+v", ask, a)
		}
	}
}

// asks: one of each, with numbers n.
func asks(n int) []any {
	return []any{
		api.Login{User: "ann", Password: "x"}, api.Create{Label: n}, api.Insert{Doc: n, Seg: n, At: n, Text: "x"}, api.Insert{At: n, Text: "x"},
		api.Delete{Doc: n, Seg: n, At: n, N: n}, api.Delete{At: n, N: n}, api.Delete{Doc: 0, Seg: n}, api.Protect{Doc: n, Seg: n, At: n, N: n, Label: n},
		api.Protect{At: n, N: n, Label: 1}, api.Protect{Label: n}, api.Copy{Doc: n, Seg: n, At: n, N: n, ToDoc: n, After: n}, api.Copy{At: n, N: n},
		api.Copy{ToDoc: n}, api.Copy{After: n}, api.Fork{Doc: n}, api.Snap{Doc: n}, api.Unmake{Doc: n}, api.View{Doc: n, From: n, N: n},
		api.View{From: n, N: n}, api.View{From: 1, N: n}, api.Where{Doc: n, Offset: n}, api.Where{Offset: n}, api.Flat{Doc: n, Seg: n, At: n},
		api.Flat{Seg: 1, At: n}, api.Grant{Label: n, User: n, On: true}, api.Grant{User: n, On: true}, api.Grant{Label: n, User: 1}, api.Log{From: n, N: n}, api.Log{N: n},
		api.Logout{},
	}
}

// Numbers at their ends come to what the chapter says of any others.
func TestR6Numbers(t *testing.T) {
	for _, n := range []int{math.MinInt, math.MinInt + 1, -1 << 40, -1, 0, 1, 1 << 40, math.MaxInt - 1, math.MaxInt} {
		for _, ask := range asks(n) {
			for _, token := range []string{"a", "b", "c"} {
				s := full(t)
				w, m := loaded(t, config(), s), modelOf(config(), s)
				for _, seq := range []int{n, math.MaxInt - 1, math.MaxInt} {
					c := api.Call{Token: token, Seq: seq, Ask: ask}
					got, changed := w.Do(c, "d")
					want, should := m.do(c, "d")
					if !same(got, want) || changed != should || !same(w.State(), m.state()) {
						t.Errorf("%T%+v: %+v, %v, not %+v, %v; %+v", c.Ask, c, got, changed, want, should, w.State())
					}
					if !state.Right(config(), w.State()) {
						t.Errorf("%T%+v: %+v isn't right", c.Ask, c, w.State())
					}
				}
			}
		}
	}
}

func TestP0(t *testing.T) {
	var nobody *acts.World
	zero := &acts.World{}
	for _, w := range []*acts.World{nobody, zero, loaded(t, config(), full(t))} {
		odd := []any{nil, 0, "", api.Call{}, &api.Insert{}, (*api.Login)(nil), func() {}, []int{1}, map[any]any{}, math.NaN(), struct{ Doc int }{}}
		for _, ask := range append(odd, asks(0)...) {
			for _, token := range []string{"", "a", "z", strings.Repeat("a", 70000)} {
				a, changed := w.Do(api.Call{Token: token, Seq: 5, Ask: ask}, token)
				if w == nil && (!same(a, api.Answer{Status: api.Down}) || changed) {
					t.Errorf("nil: %+v, %v", a, changed)
				}
				if w != nil && number(ask) == 0 && (!same(a, api.Answer{Status: api.Bad}) || changed) {
					t.Errorf("%T: %+v, %v", ask, a, changed)
				}
			}
		}
		w.Tick(math.MaxInt)
		w.Tick(math.MinInt)
		if s := w.State(); w == nil && !reflect.DeepEqual(s, api.State{}) {
			t.Errorf("nil: %+v", s)
		}
	}
	// Texts of any length are told from their length.
	long := strings.Repeat("a", 1<<26)
	trial{config(), begun(), "a", api.Insert{Text: long}, api.Answer{Status: api.Bad}, []int{0}, []int{0}}.refused(t)
}

// roomy: l with room behind it, which holds what x is.
func roomy[E any](l []E, x ...E) []E {
	return append(slices.Clone(l), x...)[:len(l)]
}

func TestR4(t *testing.T) {
	c, s := config(), full(t)
	c.Users = roomy(c.Users, api.User{Name: "behind"})
	for i := range c.Labels {
		c.Labels[i].Readers = roomy(c.Labels[i].Readers, 77)
	}
	s.Labels = roomy(s.Labels, api.Label{Owner: 77})
	s.Labels[1].Readers = roomy(s.Labels[1].Readers, 77)
	s.Docs = roomy(s.Docs, api.Doc{Frozen: true})
	s.Docs[0].Segs = roomy(s.Docs[0].Segs, api.Seg{Id: 77})
	s.Docs[0].Segs[0].Spans = roomy(s.Docs[0].Segs[0].Spans, api.Span{Mark: 77})
	s.Docs[0].Segs[0].Sites = roomy(s.Docs[0].Segs[0].Sites, api.Site{Mark: 77})
	s.Stacks[0] = roomy(s.Stacks[0][:1], api.Undo{Kind: 77})
	s.Seats = roomy(s.Seats, api.Seat{Token: "behind"})
	s.Audit = roomy(s.Audit, api.Entry{User: 77})
	s.Audit[0].Segs = roomy(s.Audit[0].Segs, 77)
	whole := func() (api.Config, api.State) {
		was := s
		was.Labels, was.Docs, was.Seats, was.Audit = s.Labels[:len(s.Labels)+1], s.Docs[:len(s.Docs)+1], s.Seats[:len(s.Seats)+1], s.Audit[:len(s.Audit)+1]
		with := c
		with.Users = c.Users[:len(c.Users)+1]
		return deep(reflect.ValueOf(with)).Interface().(api.Config), copied(was)
	}
	beforeC, beforeS := whole()
	x := sit(t, c, s)
	fresh := copied(s)
	calls := []any{
		api.Insert{At: 1, Text: "x"}, api.Grant{Label: 1, User: 1, On: true}, api.Protect{At: 1, N: 2, Label: 1}, api.Delete{N: 1},
		api.Unmake{}, api.Copy{N: 3}, api.Create{}, api.Log{N: 9},
	}
	y := sit(t, c, fresh)
	x.n, y.n = 10, 10
	for _, ask := range calls {
		if a, b := x.does("a", ask, api.Ok), y.does("a", ask, api.Ok); !same(a, b) {
			t.Errorf("%+v: %+v, %+v", ask, a, b)
		}
	}
	x.w.Do(api.Call{Ask: api.Login{User: "bob", Password: "y"}}, "d")
	y.w.Do(api.Call{Ask: api.Login{User: "bob", Password: "y"}}, "d")
	afterC, afterS := whole()
	if !reflect.DeepEqual(afterC, beforeC) || !reflect.DeepEqual(afterS, beforeS) {
		t.Errorf("changed: %+v, %+v", afterC, afterS)
	}
	if s.Labels[1].Readers[:2][1] != 77 || s.Docs[0].Segs[:4][3].Id != 77 || s.Docs[0].Segs[0].Spans[:3][2].Mark != 77 || s.Docs[0].Segs[0].Sites[:3][2].Mark != 77 ||
		s.Stacks[0][:2][1].Kind != 77 || s.Audit[0].Segs[:2][1] != 77 || c.Labels[1].Readers[:2][1] != 77 {
		t.Error("what lies behind a list is changed")
	}
	// Nothing of what was handed in, or of what is answered, is kept.
	spoil(reflect.ValueOf(&c).Elem())
	spoil(reflect.ValueOf(&s).Elem())
	told := x.w.State()
	spoil(reflect.ValueOf(&told).Elem())
	a := x.does("a", api.Log{N: 9}, api.Ok)
	b := y.does("a", api.Log{N: 9}, api.Ok)
	if !same(a, b) {
		t.Errorf("%+v, not %+v", a, b)
	}
	spoil(reflect.ValueOf(&a).Elem())
	a, _ = x.w.Do(api.Call{Token: "a", Seq: x.n, Ask: api.Logout{}}, "")
	spoil(reflect.ValueOf(&a).Elem())
	x.does("b", api.View{N: 99}, api.Ok)
	y.does("b", api.View{N: 99}, api.Ok)
	x.does("", api.Login{User: "cid"}, api.Busy)
	y.does("", api.Login{User: "cid"}, api.Busy)
	if !same(x.w.State(), y.w.State()) {
		t.Errorf("%+v, not %+v", x.w.State(), y.w.State())
	}
}

// What was handed in to New and Load may be changed at once.
func TestR4Kept(t *testing.T) {
	c, s := config(), full(t)
	w := loaded(t, c, s)
	first, _ := acts.New(c)
	spoil(reflect.ValueOf(&c).Elem())
	spoil(reflect.ValueOf(&s).Elem())
	if !same(w.State(), full(t)) || !same(first.State(), state.Fresh(config())) {
		t.Errorf("%+v, %+v", w.State(), first.State())
	}
	for _, w := range []*acts.World{w, first} {
		if a, _ := w.Do(api.Call{Ask: api.Login{User: "bob", Password: "y"}}, "d"); a.Status != api.Ok {
			t.Errorf("Login: %+v", a)
		}
	}
}

// spoil puts other values wherever there is memory to write to.
func spoil(v reflect.Value) {
	switch v.Kind() {
	case reflect.Slice:
		for i := range v.Len() {
			spoil(v.Index(i))
		}
	case reflect.Struct:
		for i := range v.NumField() {
			spoil(v.Field(i))
		}
	case reflect.Int:
		v.SetInt(v.Int() + 1)
	case reflect.Bool:
		v.SetBool(!v.Bool())
	case reflect.String:
		v.SetString(v.String() + "spoilt")
	}
}

// The same moves do the same, and a world that is loaded from another's state goes on as that one.
func TestR7(t *testing.T) {
	for seed := range int64(40) {
		x, y := begin(t, seed, map[[2]int]int{}), begin(t, seed, map[[2]int]int{})
		for range 60 {
			x.step()
			y.step()
			if !same(x.w.State(), y.w.State()) {
				t.Fatal("the same moves do otherwise")
			}
			z := loaded(t, x.c, x.w.State())
			c, draw := x.call()
			y.call()
			a, one := x.w.Do(c, draw)
			b, two := z.Do(c, draw)
			if !same(a, b) || one != two || !same(x.w.State(), z.State()) {
				t.Fatalf("%+v: %+v, and of what is loaded %+v", c, a, b)
			}
			y.w.Do(c, draw)
			x.m.do(c, draw)
			y.m.do(c, draw)
		}
	}
}

// Worlds that are alike but for texts which a user may not read answer that user alike.
func TestP15_3Texts(t *testing.T) {
	told, hidden := 0, 0
	for seed := range int64(200) {
		x := begin(t, seed, map[[2]int]int{})
		for range 60 {
			x.step()
		}
		user := x.r.Intn(len(x.c.Users))
		s := x.w.State()
		s.Seats, s.Audit = []api.Seat{{Token: "u", User: user, Used: s.Now}}, s.Audit[:len(s.Audit)/3]
		out := x.r.Intn(len(s.Labels))
		s.Labels[out].Readers = slices.DeleteFunc(s.Labels[out].Readers, func(u int) bool { return u == user })
		x.m = modelOf(x.c, s)
		other := copied(s)
		for d := range other.Docs {
			for j, g := range other.Docs[d].Segs {
				if !x.m.may(user, g.Label, false) {
					// No fewer letters, so that the marks are right still: they are no texts.
					n := utf8.RuneCountInString(g.Text)
					other.Docs[d].Segs[j].Text = strings.Repeat("q", n+x.r.Intn(x.c.Quota-n+1))
					hidden++
				}
			}
		}
		v, w := loaded(t, x.c, s), loaded(t, x.c, other)
		for n := range 25 {
			ask := x.ask()
			// Who may read plays a part: so it stays as it is.
			if op := number(ask); op == number(api.Grant{}) || op == number(api.Logout{}) {
				continue
			}
			c := api.Call{Token: "u", Seq: n + 1, Ask: ask}
			a, one := v.Do(c, "")
			b, two := w.Do(c, "")
			if !same(a, b) || one != two {
				t.Fatalf("user %d: %T%+v of\n%+v: %+v\n%+v: %+v", user, ask, c, s, a, other, b)
			}
			told++
		}
	}
	if told < 2000 || hidden < 60 {
		t.Errorf("just %d calls, %d texts", told, hidden)
	}
}
