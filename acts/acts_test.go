package acts_test

import (
	"math"
	"slices"
	"strings"
	"testing"

	"chancel/api"
	"chancel/salt"
	"chancel/state"
	"chancel/words"
)

// config: ann (0), bob (1) and cid (2). Ann edits labels 0, 1 and 2, reads 3 alone, writes 4 alone; bob edits all but 1; cid edits none.
func config() api.Config {
	return api.Config{
		Users: []api.User{
			{Name: "ann", Salt: "s", Seal: salt.Seal("s", "x")}, {Name: "bob", Seal: salt.Seal("", "y")}, {Name: "cid", Seal: salt.Seal("", "")},
		},
		Labels: []api.Label{
			{Parent: -1, Owner: 0, Readers: []int{0, 1, 2}, Writers: []int{0, 1}},
			{Parent: 0, Owner: 0, Readers: []int{0}, Writers: []int{0}},
			{Parent: 0, Owner: 1, Readers: []int{0, 1, 2}, Writers: []int{0, 1}},
			{Parent: -1, Owner: 1, Readers: []int{0, 1, 2}, Writers: []int{1}},
			{Parent: -1, Owner: 1, Readers: []int{1}, Writers: []int{0, 1}},
		},
		Quota: 20, Segs: 8, Docs: 4, Depth: 2, Seats: 4, Audit: 100, Ttl: 10}
}

// begun: a state with a document of three segments, one that is frozen, and one without segments; ann sits at a, bob at b, cid at c.
func begun() api.State {
	s := state.Fresh(config())
	s.Now, s.Next, s.Mark = 5, 10, 20
	s.Docs = []api.Doc{
		{Segs: []api.Seg{{Id: 0, Text: "hello"}, {Id: 1, Label: 1, Text: "secret"}, {Id: 2, Label: 3, Text: "cold"}}},
		{Frozen: true, Segs: []api.Seg{{Id: 3, Text: "abc"}}},
		{},
	}
	s.Seats = []api.Seat{{Token: "a", User: 0, Used: 3}, {Token: "b", User: 1, Used: 3}, {Token: "c", User: 2, Used: 3}}
	return s
}

// trial: a call to a world, and what must come of it and be noted.
type trial struct {
	c            api.Config
	s            api.State
	token        string
	ask          any
	want         api.Answer
	segs, labels []int
}

// run does the call; what comes of it, but for seats and audit, is answered.
func (x trial) run(t *testing.T) api.State {
	t.Helper()
	w := loaded(t, x.c, x.s)
	seq := 0
	for _, seat := range x.s.Seats {
		if seat.Token == x.token {
			seq = seat.Seq + 1
		}
	}
	got, changed := w.Do(api.Call{Token: x.token, Seq: seq, Ask: x.ask}, "unasked")
	if !same(got, x.want) || !changed {
		t.Errorf("%T%+v: %+v, %v, not %+v", x.ask, x.ask, got, changed, x.want)
	}
	after := w.State()
	told, _ := words.Answer(x.want)
	for i, seat := range x.s.Seats {
		if seat.Token == x.token {
			want := api.Seat{Token: x.token, User: seat.User, Used: x.s.Now, Seq: seq, Answer: told}
			if after.Seats[i] != want {
				t.Errorf("%T%+v: seat %+v, not %+v", x.ask, x.ask, after.Seats[i], want)
			}
			note := api.Entry{User: seat.User, Op: number(x.ask), Status: x.want.Status, Segs: x.segs, Labels: x.labels}
			if want := append(slices.Clone(x.s.Audit), note); !same(after.Audit, want) {
				t.Errorf("%T%+v: audit %+v, not %+v", x.ask, x.ask, after.Audit, want)
			}
		}
	}
	after.Seats, after.Audit = x.s.Seats, x.s.Audit
	return after
}

// refused does the call, which must change nothing but seat and audit.
func (x trial) refused(t *testing.T) {
	t.Helper()
	if after := x.run(t); !same(after, x.s) {
		t.Errorf("%T%+v: refused, and\n%+v is\n%+v", x.ask, x.ask, x.s, after)
	}
}

// Each ask is refused in the order of the chapter: what stands further down applies too wherever it can.
func TestP15_1R1Refusals(t *testing.T) {
	bad, long := "\xff", strings.Repeat("a", 401)
	for _, x := range []struct {
		token        string
		ask          any
		status       int
		segs, labels []int
	}{
		{"c", api.Create{Label: 5}, api.None, nil, nil},
		{"c", api.Create{Label: -1}, api.None, nil, nil},
		{"c", api.Create{Label: 0}, api.Denied, nil, []int{0}},
		{"a", api.Create{Label: 3}, api.Denied, nil, []int{3}},
		{"a", api.Create{Label: 4}, api.Denied, nil, []int{4}},
		{"a", api.Create{Label: 1}, api.Full, nil, []int{1}},

		{"c", api.Insert{Doc: 4, Seg: 0, Text: bad}, api.None, nil, nil},
		{"c", api.Insert{Doc: -1, Seg: 0, Text: bad}, api.None, nil, nil},
		{"c", api.Insert{Doc: 1, Seg: 9, Text: bad}, api.Frozen, nil, nil},
		{"a", api.Insert{Doc: 1, Seg: 3, Text: bad}, api.Frozen, nil, nil},
		{"c", api.Insert{Doc: 0, Seg: 3, Text: bad}, api.None, nil, nil},
		{"c", api.Insert{Doc: 2, Seg: 0, Text: bad}, api.None, nil, nil},
		{"b", api.Insert{Doc: 0, Seg: 1, Text: bad}, api.Denied, []int{1}, []int{1}},
		{"a", api.Insert{Doc: 0, Seg: 2, Text: long}, api.Denied, []int{2}, []int{3}},
		{"a", api.Insert{Doc: 0, Seg: 1, Text: bad}, api.Bad, []int{1}, []int{1}},
		{"a", api.Insert{Doc: 0, Seg: 1, Text: "a€"[:3]}, api.Bad, []int{1}, []int{1}},
		{"b", api.Insert{Doc: 0, Seg: 2, Text: long}, api.Bad, []int{2}, []int{3}},

		{"c", api.Delete{Doc: 4}, api.None, nil, nil},
		{"c", api.Delete{Doc: 1, Seg: 9}, api.Frozen, nil, nil},
		{"a", api.Delete{Doc: 1, Seg: 3}, api.Frozen, nil, nil},
		{"c", api.Delete{Doc: 0, Seg: 3}, api.None, nil, nil},
		{"b", api.Delete{Doc: 0, Seg: 1, N: 1}, api.Denied, []int{1}, []int{1}},
		{"c", api.Delete{Doc: 0, Seg: 0}, api.Denied, []int{0}, []int{0}},

		{"c", api.Protect{Doc: 4, Label: 9}, api.None, nil, nil},
		{"c", api.Protect{Doc: 1, Seg: 9, Label: 9}, api.Frozen, nil, nil},
		{"c", api.Protect{Doc: 0, Seg: 3, Label: 9}, api.None, nil, nil},
		{"c", api.Protect{Doc: 0, Seg: 0, Label: 5}, api.None, nil, nil},
		{"c", api.Protect{Doc: 0, Seg: 0, Label: -1}, api.None, nil, nil},
		{"a", api.Protect{Doc: 0, Seg: 2, Label: 0}, api.Denied, []int{2}, []int{3, 0}},
		{"b", api.Protect{Doc: 0, Seg: 0, Label: 1}, api.Denied, []int{0}, []int{0, 1}},
		{"a", api.Protect{Doc: 0, Seg: 0, Label: 0}, api.Bad, []int{0}, []int{0, 0}},
		{"a", api.Protect{Doc: 0, Seg: 1, Label: 2}, api.Bad, []int{1}, []int{1, 2}},
		{"a", api.Protect{Doc: 0, Seg: 1, Label: 0}, api.Bad, []int{1}, []int{1, 0}},
		{"a", api.Protect{Doc: 0, Seg: 0, Label: 1}, api.Full, []int{0}, []int{0, 1}},

		{"c", api.Copy{Doc: 4, ToDoc: 1}, api.None, nil, nil},
		{"c", api.Copy{Doc: 0, Seg: 3, ToDoc: 1}, api.None, nil, nil},
		{"c", api.Copy{Doc: 0, Seg: 0, ToDoc: 4}, api.None, nil, nil},
		{"c", api.Copy{Doc: 0, Seg: 0, ToDoc: -1}, api.None, nil, nil},
		{"c", api.Copy{Doc: 0, Seg: 0, ToDoc: 1, After: 9}, api.Frozen, nil, nil},
		{"c", api.Copy{Doc: 0, Seg: 0, ToDoc: 0, After: 3}, api.None, nil, nil},
		{"b", api.Copy{Doc: 0, Seg: 1, ToDoc: 0, After: 0}, api.Denied, []int{1, 0}, []int{1, 0}},
		{"b", api.Copy{Doc: 0, Seg: 0, ToDoc: 0, After: 1}, api.Denied, []int{0, 1}, []int{0, 1}},
		{"a", api.Copy{Doc: 0, Seg: 1, ToDoc: 0, After: 0}, api.Full, []int{1, 0}, []int{1, 0}},

		{"c", api.Fork{Doc: 4}, api.None, nil, nil},
		{"c", api.Snap{Doc: -1}, api.None, nil, nil},
		{"c", api.Fork{Doc: 2}, api.Full, nil, nil},
		{"c", api.Snap{Doc: 1}, api.Full, nil, nil},

		{"c", api.Unmake{Doc: 4}, api.None, nil, nil},
		{"c", api.Unmake{Doc: -1}, api.None, nil, nil},
		{"c", api.Unmake{Doc: 1}, api.Frozen, nil, nil},
		{"c", api.Unmake{Doc: 0}, api.Nothing, nil, nil},

		{"c", api.View{Doc: 4, N: 9}, api.None, nil, nil},
		{"c", api.View{Doc: -1, N: 9}, api.None, nil, nil},
		{"c", api.Where{Doc: 4}, api.None, nil, nil},
		{"c", api.Where{Doc: -1}, api.None, nil, nil},
		{"c", api.Where{Doc: 2}, api.None, nil, nil},
		{"c", api.Flat{Doc: 4}, api.None, nil, nil},
		{"c", api.Flat{Doc: 0, Seg: 3}, api.None, nil, nil},
		{"c", api.Flat{Doc: 2, Seg: 0}, api.None, nil, nil},

		{"c", api.Grant{Label: 0, User: 3}, api.None, nil, nil},
		{"a", api.Grant{Label: 0, User: 3, On: true}, api.None, nil, nil},
		{"a", api.Grant{Label: 0, User: -1, On: true}, api.None, nil, nil},
		{"a", api.Grant{Label: 5, User: 0, On: true}, api.None, nil, nil},
		{"a", api.Grant{Label: -1, User: 0, On: true}, api.None, nil, nil},
		{"b", api.Grant{Label: 0, User: 0, On: true}, api.Denied, nil, []int{0}},
		{"a", api.Grant{Label: 2, User: 0, Write: true}, api.Denied, nil, []int{2}},
	} {
		c, s := config(), begun()
		// No room for documents or segments: so each refusal stands ahead of that one.
		s.Docs = append(s.Docs, api.Doc{})
		c.Docs, c.Segs = 4, 4
		trial{c, s, x.token, x.ask, api.Answer{Status: x.status}, x.segs, x.labels}.refused(t)
	}
}

// Room at both sides of its edge: for one segment, two, three, and one document.
func TestP15_1Room(t *testing.T) {
	for _, x := range []struct {
		ask         any
		segs        int
		want        api.Answer
		full, noted []int
		labels      []int
		document    bool
	}{
		{api.Create{Label: 1}, 1, api.Answer{Num: 3, At: 10}, nil, []int{10}, []int{1}, true},
		{api.Protect{Seg: 0, Label: 2}, 2, api.Answer{Num: 10, At: 11}, []int{0}, []int{0, 10, 11}, []int{0, 2}, false},
		{api.Copy{Seg: 0, After: 1}, 1, api.Answer{Num: 10}, []int{0, 1}, []int{0, 1, 10}, []int{0, 1}, false},
		{api.Copy{Seg: 1, After: 1}, 1, api.Answer{Num: 10}, []int{1, 1}, []int{1, 1, 10}, []int{1, 1}, false},
		{api.Fork{Doc: 0}, 3, api.Answer{Num: 3}, nil, nil, nil, true},
		{api.Snap{Doc: 1}, 1, api.Answer{Num: 3}, nil, nil, nil, true},
		{api.Snap{Doc: 2}, 0, api.Answer{Num: 3}, nil, nil, nil, true},
	} {
		full := api.Answer{Status: api.Full}
		c := config()
		c.Segs = 4 + x.segs
		if after := (trial{c, begun(), "a", x.ask, x.want, x.noted, x.labels}).run(t); after.Next != 10+x.segs {
			t.Errorf("%T%+v: Next %d", x.ask, x.ask, after.Next)
		}
		if x.segs > 0 {
			c.Segs--
			trial{c, begun(), "a", x.ask, full, x.full, x.labels}.refused(t)
		}
		c = config()
		c.Docs = 3
		if x.document {
			trial{c, begun(), "a", x.ask, full, x.full, x.labels}.refused(t)
		} else {
			trial{c, begun(), "a", x.ask, x.want, x.noted, x.labels}.run(t)
		}
	}
}

// docs: what a call has made of the documents of begun.
func docs(t *testing.T, x trial) []api.Doc {
	t.Helper()
	return x.run(t).Docs
}

func TestP15_1Documents(t *testing.T) {
	twins := []api.Seg{{Id: 10, Text: "hello"}, {Id: 11, Label: 1, Text: "secret"}, {Id: 12, Label: 3, Text: "cold"}}
	marked := begun()
	marked.Docs[0].Segs[0].Spans = []api.Span{{Mark: 19, From: 1, To: 2}}
	marked.Docs[0].Segs[1].Sites = []api.Site{{Mark: 18, At: 3}}
	for _, x := range []struct {
		ask  any
		want api.Answer
		doc  api.Doc
	}{
		// Whoever may log in may fork, what they may not read too.
		{api.Fork{Doc: 0}, api.Answer{Num: 3}, api.Doc{Segs: twins}},
		{api.Snap{Doc: 0}, api.Answer{Num: 3}, api.Doc{Frozen: true, Segs: twins}},
		{api.Fork{Doc: 1}, api.Answer{Num: 3}, api.Doc{Segs: []api.Seg{{Id: 10, Text: "abc"}}}},
		{api.Snap{Doc: 1}, api.Answer{Num: 3}, api.Doc{Frozen: true, Segs: []api.Seg{{Id: 10, Text: "abc"}}}},
		{api.Fork{Doc: 2}, api.Answer{Num: 3}, api.Doc{}},
	} {
		got := docs(t, trial{config(), marked, "c", x.ask, x.want, nil, nil})
		if want := append(marked.Docs[:3:3], x.doc); !same(got, want) {
			t.Errorf("%T%+v: %+v, not %+v", x.ask, x.ask, got, want)
		}
	}
	got := docs(t, trial{config(), marked, "a", api.Create{Label: 2}, api.Answer{Num: 3, At: 10}, []int{10}, []int{2}})
	if want := append(marked.Docs[:3:3], api.Doc{Segs: []api.Seg{{Id: 10, Label: 2}}}); !same(got, want) {
		t.Errorf("Create: %+v", got)
	}
}

func TestP15_1InsertDelete(t *testing.T) {
	one := []int{0}
	text := "äöüß€𝄞" // 15 bytes: just so many have room beside hello.
	for _, x := range []struct {
		ask  any
		want api.Answer
		text string
		kind int
		gone string
	}{
		{api.Insert{At: 5, Text: ","}, api.Answer{Num: 6, At: 5}, "hello,", 1, ""},
		{api.Insert{At: -1, Text: "oh "}, api.Answer{Num: 8, At: 0}, "oh hello", 1, ""},
		{api.Insert{At: 9, Text: text}, api.Answer{Num: 11, At: 5}, "hello" + text, 1, ""},
		{api.Insert{At: 2, Text: ""}, api.Answer{Num: 5, At: 2}, "hello", 1, ""},
		{api.Insert{At: 1, Text: text + "!"}, api.Answer{Status: api.Full}, "hello", 1, ""},
		{api.Insert{At: 1, Text: strings.Repeat("a", 400)}, api.Answer{Status: api.Full}, "hello", 1, ""},
		{api.Delete{At: 1, N: 3}, api.Answer{Num: 3, At: 1}, "ho", 2, "ell"},
		{api.Delete{At: -3, N: 2}, api.Answer{Num: 2, At: 0}, "llo", 2, "he"},
		{api.Delete{At: 3, N: 9}, api.Answer{Num: 2, At: 3}, "hel", 2, "lo"},
		{api.Delete{At: 9, N: 9}, api.Answer{Num: 0, At: 5}, "hello", 2, ""},
		{api.Delete{At: 2, N: -1}, api.Answer{Num: 0, At: 2}, "hello", 2, ""},
	} {
		after := trial{config(), begun(), "a", x.ask, x.want, one, one}.run(t)
		if got := after.Docs[0].Segs[0].Text; got != x.text {
			t.Errorf("%T%+v: %q, not %q", x.ask, x.ask, got, x.text)
		}
		// The mark is used and pushed, also where the text finds no room.
		if want := []api.Undo{{Kind: x.kind, Mark: 20, Text: x.gone}}; after.Mark != 21 || !same(after.Stacks[0], want) {
			t.Errorf("%T%+v: Mark %d, %+v", x.ask, x.ask, after.Mark, after.Stacks)
		}
		after.Docs[0].Segs[0] = begun().Docs[0].Segs[0]
		after.Mark, after.Stacks = 20, begun().Stacks
		if !same(after, begun()) {
			t.Errorf("%T%+v: beside it %+v", x.ask, x.ask, after)
		}
	}
	c := config()
	c.Quota = 405
	trial{c, begun(), "a", api.Insert{Text: strings.Repeat("a", 400)}, api.Answer{Num: 405}, one, one}.run(t)
}

func TestP15_1ProtectCopy(t *testing.T) {
	s := begun()
	s.Docs[0].Segs[0].Spans = []api.Span{{Mark: 19, From: 0, To: 5}}
	s.Docs[0].Segs[0].Sites = []api.Site{{Mark: 17, At: 1}, {Mark: 18, At: 5}}
	s.Docs = append(s.Docs, api.Doc{Segs: []api.Seg{{Id: 4, Label: 2}}})
	rest := s.Docs[0].Segs[1:]
	for _, x := range []struct {
		ask          any
		want         api.Answer
		segs, labels []int
		first, last  []api.Seg
	}{
		{api.Protect{At: 1, N: 2, Label: 1}, api.Answer{Num: 10, At: 11}, []int{0, 10, 11}, []int{0, 1}, slices.Concat([]api.Seg{
			{Id: 0, Text: "h", Spans: []api.Span{{Mark: 19, From: 0, To: 1}}, Sites: []api.Site{{Mark: 17, At: 1}}},
			{Id: 10, Label: 1, Text: "el"},
			{Id: 11, Text: "lo", Spans: []api.Span{{Mark: 19, From: 0, To: 2}}, Sites: []api.Site{{Mark: 18, At: 2}}},
		}, rest), s.Docs[3].Segs},
		{api.Protect{At: 9, N: 9, Label: 2}, api.Answer{Num: 10, At: 11}, []int{0, 10, 11}, []int{0, 2}, slices.Concat(
			s.Docs[0].Segs[:1], []api.Seg{{Id: 10, Label: 2}, {Id: 11}}, rest), s.Docs[3].Segs},
		{api.Copy{At: 1, N: 9, After: 0}, api.Answer{Num: 10}, []int{0, 0, 10}, []int{0, 0}, slices.Concat(
			s.Docs[0].Segs[:1], []api.Seg{{Id: 10, Text: "ello"}}, rest), s.Docs[3].Segs},
		{api.Copy{Seg: 1, At: -1, N: 1, After: 0}, api.Answer{Num: 10}, []int{1, 0, 10}, []int{1, 0}, slices.Concat(
			s.Docs[0].Segs[:1], []api.Seg{{Id: 10, Label: 1, Text: "s"}}, rest), s.Docs[3].Segs},
		{api.Copy{Doc: 1, Seg: 3, At: 1, N: 1, ToDoc: 3, After: 4}, api.Answer{Num: 10}, []int{3, 4, 10}, []int{0, 2},
			s.Docs[0].Segs, []api.Seg{{Id: 4, Label: 2}, {Id: 10, Text: "b"}}},
		{api.Copy{Doc: 0, Seg: 0, At: 1, N: -1, ToDoc: 3, After: 4}, api.Answer{Num: 10}, []int{0, 4, 10}, []int{0, 2},
			s.Docs[0].Segs, []api.Seg{{Id: 4, Label: 2}, {Id: 10}}},
	} {
		got := docs(t, trial{config(), s, "a", x.ask, x.want, x.segs, x.labels})
		if want := []api.Doc{{Segs: x.first}, s.Docs[1], s.Docs[2], {Segs: x.last}}; !same(got, want) {
			t.Errorf("%T%+v:\n%+v, not\n%+v", x.ask, x.ask, got, want)
		}
	}
}

func TestP15_1Looks(t *testing.T) {
	hello, secret, cold := api.Run{Open: true, Text: "hello"}, api.Run{Id: 1, Label: 1}, api.Run{Id: 2, Label: 3, Open: true, Text: "cold"}
	open := api.Run{Id: 1, Label: 1, Open: true, Text: "secret"}
	for _, x := range []struct {
		token string
		ask   any
		want  api.Answer
	}{
		{"a", api.View{N: 200}, api.Answer{Num: 15, Runs: []api.Run{hello, open, cold}}},
		{"b", api.View{N: 200}, api.Answer{Num: 10, Runs: []api.Run{hello, secret, cold}}},
		{"c", api.View{From: 4, N: 2}, api.Answer{Num: 10, Runs: []api.Run{{Open: true, Text: "o"}, secret}}},
		{"c", api.View{From: -4, N: 1}, api.Answer{Num: 10, Runs: []api.Run{{Open: true, Text: "h"}}}},
		{"c", api.View{From: 99, N: 1}, api.Answer{Num: 10}},
		{"c", api.View{N: 0}, api.Answer{Num: 10}},
		{"c", api.View{Doc: 1, N: 3}, api.Answer{Num: 3, Runs: []api.Run{{Id: 3, Open: true, Text: "abc"}}}},
		{"c", api.View{Doc: 2, N: 3}, api.Answer{}},
		{"a", api.Where{Offset: 6}, api.Answer{Num: 1, At: 1}},
		{"b", api.Where{Offset: 6}, api.Answer{Num: 1, At: 1}},
		{"a", api.Where{Offset: 7}, api.Answer{Num: 1, At: 2}},
		{"b", api.Where{Offset: 7}, api.Answer{Num: 2, At: 1}},
		{"b", api.Where{Offset: -7}, api.Answer{}},
		{"b", api.Where{Offset: 99}, api.Answer{Num: 2, At: 4}},
		{"a", api.Flat{Seg: 1, At: 3}, api.Answer{Num: 8}},
		{"b", api.Flat{Seg: 1, At: 3}, api.Answer{Num: 6}},
		{"a", api.Flat{Seg: 2, At: 9}, api.Answer{Num: 15}},
		{"b", api.Flat{Seg: 2, At: -9}, api.Answer{Num: 6}},
	} {
		trial{config(), begun(), x.token, x.ask, x.want, nil, nil}.refused(t)
	}
}

func TestP15_1Grant(t *testing.T) {
	for _, x := range []struct {
		token   string
		ask     api.Grant
		label   int
		readers []int
		writers []int
	}{
		{"a", api.Grant{Label: 1, User: 1, On: true}, 1, []int{0, 1}, []int{0}},
		{"a", api.Grant{Label: 1, User: 2, Write: true, On: true}, 1, []int{0}, []int{0, 2}},
		{"a", api.Grant{Label: 0, User: 0}, 0, []int{1, 2}, []int{0, 1}},
		{"b", api.Grant{Label: 3, User: 1, Write: true}, 3, []int{0, 1, 2}, nil},
		{"b", api.Grant{Label: 3, User: 0, Write: true}, 3, []int{0, 1, 2}, []int{1}},
	} {
		after := trial{config(), begun(), x.token, x.ask, api.Answer{}, nil, []int{x.label}}.run(t)
		want := begun()
		want.Labels[x.label].Readers, want.Labels[x.label].Writers = x.readers, x.writers
		if !same(after, want) {
			t.Errorf("%+v: %+v", x.ask, after.Labels)
		}
	}
}

func TestP15_1Log(t *testing.T) {
	s := begun()
	s.Audit = []api.Entry{
		{User: 0, Op: 4, Segs: []int{1}, Labels: []int{1}},
		{User: 0, Op: 4, Status: api.Full, Segs: []int{0}, Labels: []int{0}},
		{User: -1, Op: 1, Status: api.Denied},
		{User: 1, Op: 6, Status: api.Denied, Segs: []int{0}, Labels: []int{0, 1}},
	}
	for _, x := range []struct {
		token string
		ask   api.Log
		want  []api.Entry
	}{
		{"a", api.Log{N: 10}, s.Audit},
		{"b", api.Log{N: 10}, s.Audit[1:]},
		{"c", api.Log{N: 10}, s.Audit[1:3]},
		{"c", api.Log{From: 1, N: 1}, s.Audit[2:3]},
		{"c", api.Log{From: -1, N: 1}, s.Audit[1:2]},
		{"c", api.Log{From: 2, N: 9}, nil},
		{"c", api.Log{N: 0}, nil},
	} {
		trial{config(), s, x.token, x.ask, api.Answer{Entries: x.want}, nil, nil}.refused(t)
	}
}

func TestP15_1Tick(t *testing.T) {
	const end = 1 << 40
	for _, x := range []struct{ now, n, want int }{
		{5, 0, 5}, {5, 1, 6}, {5, -1, 5}, {5, math.MinInt, 5}, {0, end, end}, {5, end, end}, {5, end - 5, end}, {5, end - 6, end - 1},
		{end, 1, end}, {end, 0, end}, {end - 1, 1, end}, {5, math.MaxInt, end}, {end, math.MaxInt, end}, {end, -1, end},
	} {
		s := begun()
		s.Now = x.now
		for i := range s.Seats {
			s.Seats[i].Used = 0
		}
		w := loaded(t, config(), s)
		w.Tick(x.n)
		s.Now = x.want
		if got := w.State(); !same(got, s) {
			t.Errorf("%d, Tick(%d): %d", x.now, x.n, got.Now)
		}
	}
}
