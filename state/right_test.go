package state_test

import (
	"math"
	"math/rand"
	"reflect"
	"slices"
	"strings"
	"testing"

	"chancel/api"
	"chancel/salt"
	"chancel/state"
	"chancel/words"
)

// config: of three users and three labels, the third below the first.
func config() api.Config {
	c := api.Config{Quota: 20, Segs: 5, Docs: 3, Depth: 2, Seats: 3, Audit: 4, Ttl: 9}
	for _, name := range []string{"ann", "bob", "cy"} {
		c.Users = append(c.Users, api.User{Name: name, Salt: "s", Seal: salt.Seal("s", name)})
	}
	c.Labels = []api.Label{
		{Parent: -1, Owner: 0, Readers: []int{0, 1, 2}, Writers: []int{0, 1}}, {Parent: -1, Owner: 1, Readers: []int{1}}, {Parent: 0, Owner: 2},
	}
	return c
}

// full: a state that is right for config, with two of each thing.
func full() api.State {
	s := state.Fresh(config())
	s.Now, s.Next, s.Mark = 50, 9, 7
	s.Docs = []api.Doc{
		{Segs: []api.Seg{
			{Id: 8, Label: 2, Text: "a€bcd", Spans: []api.Span{{Mark: 6, From: 1, To: 2}, {Mark: 1, From: 2, To: 4}}, Sites: []api.Site{{Mark: 2, At: 0}, {Mark: 6, At: 5}}},
			{Id: 0, Text: "x"},
		}},
		{Frozen: true, Segs: []api.Seg{{Id: 5, Label: 1}, {Id: 3, Text: "twin"}}},
	}
	s.Stacks[0] = []api.Undo{{Kind: 1, Doc: 1, Mark: 6, Label: 2}, {Kind: 2, Mark: 1, Text: "€"}}
	s.Stacks[2] = []api.Undo{{Kind: 2, Doc: 1, Mark: 2}}
	answer, _ := words.Answer(api.Answer{Num: 3})
	s.Seats = []api.Seat{{Token: "t", User: 2, Used: 50, Seq: 3, Answer: answer}, {Token: "u", User: 0}}
	s.Audit = []api.Entry{{User: -1, Op: 1, Status: 3}, {User: 2, Op: 15, Status: 255, Segs: []int{8, 0}, Labels: []int{2}}}
	return s
}

// P14.1: the example of the chapter.
func TestP14_1Examples(t *testing.T) {
	c := api.Config{Users: config().Users[:2], Labels: config().Labels[1:2], Quota: 1, Segs: 1, Docs: 1, Depth: 1, Seats: 1, Audit: 1}
	s := state.Fresh(c)
	if !state.May(c) || !state.Right(c, s) {
		t.Error("not right")
	}
	b, ok := state.Write(s)
	again, well := state.Read(b)
	if !ok || !well || !same(again, s) {
		t.Errorf("%q, %v: %+v, %v", b, ok, again, well)
	}
}

// bent: a change of a config or a state, and whether it is right then.
type bent[T any] struct {
	what string
	want bool
	do   func(*T)
}

// P14.1: May at each edge of each of its numbers.
func TestP14_1MaySizes(t *testing.T) {
	for name, x := range map[string]struct {
		low, high int
		at        func(*api.Config) *int
	}{
		"Quota": {1, 1000, func(c *api.Config) *int { return &c.Quota }},
		"Segs":  {1, 24, func(c *api.Config) *int { return &c.Segs }},
		"Docs":  {1, 8, func(c *api.Config) *int { return &c.Docs }},
		"Depth": {1, 4, func(c *api.Config) *int { return &c.Depth }},
		"Seats": {1, 8, func(c *api.Config) *int { return &c.Seats }},
		"Audit": {1, 100, func(c *api.Config) *int { return &c.Audit }},
		"Ttl":   {0, 1000000, func(c *api.Config) *int { return &c.Ttl }},
	} {
		for _, n := range []int{math.MinInt, -1 << 40, -1, 0, 1, 2, x.low - 1, x.low, x.high - 1, x.high, x.high + 1, 1 << 32, 1<<32 + 1, 1 << 40, math.MaxInt} {
			c := config()
			*x.at(&c) = n
			if state.May(c) != (n >= x.low && n <= x.high) {
				t.Error(name, n)
			}
			// A state without things fits into any sizes.
			righted(t, c, state.Fresh(config()))
		}
	}
}

// P14.1: May asks of the users and the labels what their layers ask.
func TestP14_1MayUsersAndLabels(t *testing.T) {
	user := func(i int) api.User { return api.User{Name: string(rune('a' + i)), Seal: salt.Seal("", "")} }
	for _, x := range []bent[api.Config]{
		{"as it is", true, func(c *api.Config) {}},
		{"no users", false, func(c *api.Config) { c.Users = nil }},
		{"two users for labels of three", false, func(c *api.Config) { c.Users = c.Users[:2] }},
		{"eight users", true, func(c *api.Config) {
			for i := range 5 {
				c.Users = append(c.Users, user(i))
			}
		}},
		{"nine users", false, func(c *api.Config) {
			for i := range 6 {
				c.Users = append(c.Users, user(i))
			}
		}},
		{"two of one name", false, func(c *api.Config) { c.Users[1].Name = c.Users[0].Name }},
		{"no name", false, func(c *api.Config) { c.Users[1].Name = "" }},
		{"a long salt", false, func(c *api.Config) { c.Users[1].Salt = strings.Repeat("s", 21) }},
		{"no seal", false, func(c *api.Config) { c.Users[2].Seal = "" }},
		{"no labels", false, func(c *api.Config) { c.Labels = nil }},
		{"twelve labels", true, func(c *api.Config) { c.Labels = append(c.Labels, make([]api.Label, 9)...) }},
		{"thirteen labels", false, func(c *api.Config) { c.Labels = append(c.Labels, make([]api.Label, 10)...) }},
		{"a parent that isn't ahead", false, func(c *api.Config) { c.Labels[1].Parent = 1 }},
		{"an owner that is none", false, func(c *api.Config) { c.Labels[1].Owner = 3 }},
		{"a reader that is none", false, func(c *api.Config) { c.Labels[1].Readers = []int{3} }},
		{"writers that don't rise", false, func(c *api.Config) { c.Labels[1].Writers = []int{1, 0} }},
	} {
		c := config()
		x.do(&c)
		if state.May(c) != x.want || modelMay(c) != x.want {
			t.Error(x.what)
		}
		righted(t, c, state.Fresh(c))
		righted(t, c, full())
	}
	if state.May(api.Config{}) || state.Right(api.Config{}, api.State{}) {
		t.Error("the zero config")
	}
}

// P14.1: Fresh of any right config, field by field.
func TestP14_1Fresh(t *testing.T) {
	r := rand.New(rand.NewSource(1))
	for range 500 {
		c := drawnConfig(r)
		s := state.Fresh(c)
		want := api.State{Mark: 1, Labels: c.Labels, Stacks: make([][]api.Undo, len(c.Users))}
		if !same(s, want) || len(s.Stacks) != len(c.Users) || !state.May(c) || !righted(t, c, s) {
			t.Fatalf("%+v of %+v", s, c)
		}
		written(t, s)
	}
}

// P14.1: Right at both sides of each edge that the chapter names, of the numbers and the labels.
func TestP14_1RightNumbersAndLabels(t *testing.T) {
	const most = 1 << 40
	bends(t, []bent[api.State]{
		{"as it is", true, func(s *api.State) {}},
		{"Now below 0", false, func(s *api.State) { s.Now, s.Seats = -1, nil }},
		{"Now 0", true, func(s *api.State) { s.Now, s.Seats = 0, nil }},
		{"Now 2^40", true, func(s *api.State) { s.Now = most }},
		{"Now above", false, func(s *api.State) { s.Now = most + 1 }},
		{"Now at the end", false, func(s *api.State) { s.Now = math.MaxInt }},
		{"Next below 0", false, func(s *api.State) { s.Next, s.Docs, s.Stacks = -1, nil, make([][]api.Undo, 3) }},
		{"Next 0", true, func(s *api.State) { s.Next, s.Docs, s.Stacks = 0, nil, make([][]api.Undo, 3) }},
		{"Next at the beginning", false, func(s *api.State) { s.Next = math.MinInt }},
		{"Next 2^40", true, func(s *api.State) { s.Next, s.Docs[0].Segs[0].Id = most, most-1 }},
		{"Next above", false, func(s *api.State) { s.Next = most + 1 }},
		{"Mark 0", false, func(s *api.State) { s.Mark, s.Docs, s.Stacks = 0, nil, make([][]api.Undo, 3) }},
		{"Mark 1", true, func(s *api.State) { s.Mark, s.Docs, s.Stacks = 1, nil, make([][]api.Undo, 3) }},
		{"Mark at the beginning", false, func(s *api.State) { s.Mark = math.MinInt }},
		{"Mark 2^40", true, func(s *api.State) { s.Mark, s.Stacks[0][0].Mark = most, most-1 }},
		{"Mark above", false, func(s *api.State) { s.Mark = most + 1 }},
		{"other readers", true, func(s *api.State) { s.Labels[1].Readers, s.Labels[2].Writers = nil, []int{0, 2} }},
		{"a reader that is none", false, func(s *api.State) { s.Labels[1].Readers = []int{3} }},
		{"writers that don't rise", false, func(s *api.State) { s.Labels[1].Writers = []int{1, 1} }},
		{"another owner", false, func(s *api.State) { s.Labels[1].Owner = 0 }},
		{"another parent", false, func(s *api.State) { s.Labels[2].Parent = 1 }},
		{"no parent", false, func(s *api.State) { s.Labels[2].Parent = -1 }},
		{"a label less", false, func(s *api.State) { s.Labels, s.Docs, s.Stacks = s.Labels[:2], nil, make([][]api.Undo, 3) }},
		{"a label more", false, func(s *api.State) { s.Labels = append(s.Labels, api.Label{Parent: -1}) }},
		{"no labels", false, func(s *api.State) { s.Labels, s.Docs, s.Stacks = nil, nil, make([][]api.Undo, 3) }},
	})
}

// bends: Right of what comes of full by each of l.
func bends(t *testing.T, l []bent[api.State]) {
	t.Helper()
	for _, x := range l {
		s := full()
		x.do(&s)
		if righted(t, config(), s) != x.want {
			t.Error(x.what)
		}
		written(t, s)
	}
}

// P14.1: Right at both sides of each edge of the documents.
func TestP14_1RightDocs(t *testing.T) {
	first := func(s *api.State) *api.Seg { return &s.Docs[0].Segs[0] }
	bends(t, []bent[api.State]{
		{"no documents", true, func(s *api.State) { s.Docs, s.Stacks = nil, make([][]api.Undo, 3) }},
		{"three documents", true, func(s *api.State) { s.Docs = append(s.Docs, api.Doc{}) }},
		{"four documents", false, func(s *api.State) { s.Docs = append(s.Docs, api.Doc{}, api.Doc{Frozen: true}) }},
		{"all frozen", true, func(s *api.State) { s.Docs[0].Frozen = true }},
		{"five segments", true, func(s *api.State) { s.Docs = append(s.Docs, api.Doc{Segs: []api.Seg{{Id: 1}}}) }},
		{"six segments", false, func(s *api.State) { s.Docs = append(s.Docs, api.Doc{Segs: []api.Seg{{Id: 1}, {Id: 2}}}) }},
		{"six segments in one", false, func(s *api.State) {
			s.Docs = []api.Doc{{}, {Segs: []api.Seg{{Id: 1}, {Id: 2}, {Id: 3}, {Id: 4}, {Id: 5}, {Id: 6}}}}
		}},
		{"a text that isn't right", false, func(s *api.State) { s.Docs[1].Segs[1].Text = "a\xff" }},
		{"a text of 20 bytes", true, func(s *api.State) { s.Docs[1].Segs[1].Text = strings.Repeat("ä", 10) }},
		{"a text of 21 bytes", false, func(s *api.State) { s.Docs[1].Segs[1].Text = strings.Repeat("ä", 10) + "a" }},
		{"the label -1", false, func(s *api.State) { first(s).Label = -1 }},
		{"the label 3", false, func(s *api.State) { first(s).Label = 3 }},
		{"a label at the end", false, func(s *api.State) { first(s).Label = math.MaxInt }},
		{"the Id -1", false, func(s *api.State) { first(s).Id = -1 }},
		{"the Id at the beginning", false, func(s *api.State) { first(s).Id = math.MinInt }},
		{"the Id of Next", false, func(s *api.State) { first(s).Id = 9 }},
		{"an Id of the same document", false, func(s *api.State) { first(s).Id = 0 }},
		{"an Id of another document", false, func(s *api.State) { first(s).Id = 3 }},
		{"a span of Mark", false, func(s *api.State) { first(s).Spans[0].Mark = 7 }},
		{"a span of mark 0", false, func(s *api.State) { first(s).Spans[0].Mark = 0 }},
		{"a span behind the text", false, func(s *api.State) { first(s).Spans[1].To = 6 }},
		{"a span to the end", true, func(s *api.State) { first(s).Spans[1].To = 5 }},
		{"a span without letters", false, func(s *api.State) { first(s).Spans[1].To = 2 }},
		{"spans over each other", false, func(s *api.State) { first(s).Spans[1].From = 1 }},
		{"spans of one mark that meet", false, func(s *api.State) { first(s).Spans[1].Mark = 6 }},
		{"a site of Mark", false, func(s *api.State) { first(s).Sites[1].Mark = 7 }},
		{"a site of mark 0", false, func(s *api.State) { first(s).Sites[1].Mark = 0 }},
		{"a site behind the text", false, func(s *api.State) { first(s).Sites[1].At = 6 }},
		{"sites that don't rise", false, func(s *api.State) { slices.Reverse(first(s).Sites) }},
		{"a site twice", false, func(s *api.State) { first(s).Sites[1] = first(s).Sites[0] }},
		{"one place's sites of two marks", true, func(s *api.State) { first(s).Sites[1].At = 0 }},
	})
}

// P14.1: Right at both sides of each edge of the stacks.
func TestP14_1RightStacks(t *testing.T) {
	thing := func(s *api.State) *api.Undo { return &s.Stacks[0][1] }
	bends(t, []bent[api.State]{
		{"no stacks", false, func(s *api.State) { s.Stacks = nil }},
		{"a stack less", false, func(s *api.State) { s.Stacks = s.Stacks[:2] }},
		{"a stack more", false, func(s *api.State) { s.Stacks = append(s.Stacks, nil) }},
		{"three things", false, func(s *api.State) { s.Stacks[0] = append(s.Stacks[0], s.Stacks[0][0]) }},
		{"two things of one mark", true, func(s *api.State) { s.Stacks[0][0] = s.Stacks[0][1] }},
		{"the kind 0", false, func(s *api.State) { *thing(s) = api.Undo{Mark: 1} }},
		{"the kind 1", true, func(s *api.State) { *thing(s) = api.Undo{Kind: 1, Mark: 1} }},
		{"the kind 3", false, func(s *api.State) { *thing(s) = api.Undo{Kind: 3, Mark: 1} }},
		{"an insertion of a text", false, func(s *api.State) { thing(s).Kind = 1 }},
		{"a text that isn't right", false, func(s *api.State) { thing(s).Text = "\x80" }},
		{"a text of 20 bytes", true, func(s *api.State) { thing(s).Text = strings.Repeat("a", 20) }},
		{"a text of 21 bytes", false, func(s *api.State) { thing(s).Text = strings.Repeat("a", 21) }},
		{"the document -1", false, func(s *api.State) { thing(s).Doc = -1 }},
		{"the document 2", false, func(s *api.State) { thing(s).Doc = 2 }},
		{"no documents", false, func(s *api.State) { s.Docs = nil }},
		{"the label -1", false, func(s *api.State) { thing(s).Label = -1 }},
		{"the label 2", true, func(s *api.State) { thing(s).Label = 2 }},
		{"the label 3", false, func(s *api.State) { thing(s).Label = 3 }},
		{"the mark 0", false, func(s *api.State) { thing(s).Mark = 0 }},
		{"a mark at the beginning", false, func(s *api.State) { thing(s).Mark = math.MinInt }},
		{"the mark 6", true, func(s *api.State) { thing(s).Mark = 6 }},
		{"the mark of Mark", false, func(s *api.State) { thing(s).Mark = 7 }},
	})
}

// P14.1: Right at both sides of each edge of the seats and the entries.
func TestP14_1RightSeatsAndAudit(t *testing.T) {
	seat := func(s *api.State) *api.Seat { return &s.Seats[1] }
	entry := func(s *api.State) *api.Entry { return &s.Audit[1] }
	told := full().Seats[0].Answer
	bends(t, []bent[api.State]{
		{"no seats", true, func(s *api.State) { s.Seats = nil }},
		{"three seats", true, func(s *api.State) { s.Seats = append(s.Seats, api.Seat{Token: "v"}) }},
		{"four seats", false, func(s *api.State) { s.Seats = append(s.Seats, api.Seat{Token: "v"}, api.Seat{Token: "w"}) }},
		{"one token twice", false, func(s *api.State) { seat(s).Token = "t" }},
		{"one user twice", true, func(s *api.State) { seat(s).User = 2 }},
		{"no token", false, func(s *api.State) { seat(s).Token = "" }},
		{"a token of 20 bytes", true, func(s *api.State) { seat(s).Token = strings.Repeat("\xff", 20) }},
		{"a token of 21 bytes", false, func(s *api.State) { seat(s).Token = strings.Repeat("t", 21) }},
		{"the user -1", false, func(s *api.State) { seat(s).User = -1 }},
		{"the user 3", false, func(s *api.State) { seat(s).User = 3 }},
		{"Used below 0", false, func(s *api.State) { seat(s).Used = -1 }},
		{"Used at Now", true, func(s *api.State) { seat(s).Used = 50 }},
		{"Used behind Now", false, func(s *api.State) { seat(s).Used = 51 }},
		{"Seq below 0", false, func(s *api.State) { seat(s).Seq = -1 }},
		{"Seq at the end", true, func(s *api.State) { seat(s).Seq = math.MaxInt }},
		{"an answer", true, func(s *api.State) { seat(s).Answer = told }},
		{"an answer and a byte", false, func(s *api.State) { seat(s).Answer = told + "\x00" }},
		{"an answer without a byte", false, func(s *api.State) { seat(s).Answer = told[1:] }},
		{"no entries", true, func(s *api.State) { s.Audit = nil }},
		{"four entries", true, func(s *api.State) { s.Audit = append(s.Audit, s.Audit...) }},
		{"five entries", false, func(s *api.State) { s.Audit = append(append(s.Audit, s.Audit...), api.Entry{}) }},
		{"an entry of -1", true, func(s *api.State) { entry(s).User = -1 }},
		{"an entry of -2", false, func(s *api.State) { entry(s).User = -2 }},
		{"an entry of 3", false, func(s *api.State) { entry(s).User = 3 }},
		{"the op 0", true, func(s *api.State) { entry(s).Op = 0 }},
		{"the op -1", false, func(s *api.State) { entry(s).Op = -1 }},
		{"the op 16", false, func(s *api.State) { entry(s).Op = 16 }},
		{"the status -1", false, func(s *api.State) { entry(s).Status = -1 }},
		{"the status 256", false, func(s *api.State) { entry(s).Status = 256 }},
		{"segments and labels that are none", true, func(s *api.State) { entry(s).Segs, entry(s).Labels = []int{-1, math.MaxInt}, []int{math.MinInt, 99} }},
		{"255 segments and labels", true, func(s *api.State) { entry(s).Segs, entry(s).Labels = make([]int, 255), make([]int, 255) }},
		{"256 segments", false, func(s *api.State) { entry(s).Segs = make([]int, 256) }},
		{"256 labels", false, func(s *api.State) { entry(s).Labels = make([]int, 256) }},
	})
}

// P14.1: what is right is asked of the config that is given: full is too much for one that is smaller in any size.
func TestP14_1RightForSmallerConfig(t *testing.T) {
	for i, x := range []struct {
		want bool
		do   func(*api.Config)
	}{
		{true, func(c *api.Config) { c.Docs = 2 }},
		{false, func(c *api.Config) { c.Docs = 1 }},
		{true, func(c *api.Config) { c.Segs = 4 }},
		{false, func(c *api.Config) { c.Segs = 3 }},
		{true, func(c *api.Config) { c.Quota = 7 }},
		{false, func(c *api.Config) { c.Quota = 6 }},
		{false, func(c *api.Config) { c.Depth = 1 }},
		{true, func(c *api.Config) { c.Seats = 2 }},
		{false, func(c *api.Config) { c.Seats = 1 }},
		{true, func(c *api.Config) { c.Audit = 2 }},
		{false, func(c *api.Config) { c.Audit = 1 }},
		{true, func(c *api.Config) { c.Ttl = 0 }},
		{false, func(c *api.Config) { c.Ttl = -1 }},
		{false, func(c *api.Config) { c.Labels = c.Labels[:2] }},
		{false, func(c *api.Config) { c.Labels[0].Owner = 1 }},
		{true, func(c *api.Config) { c.Labels[0].Readers = nil }},
		{false, func(c *api.Config) { c.Users = append(c.Users, api.User{Name: "d", Seal: salt.Seal("", "")}) }},
	} {
		c := config()
		x.do(&c)
		if righted(t, c, full()) != x.want {
			t.Error(i)
		}
	}
}

// P14.1: drawn right states, and what comes of them when something is otherwise, against the chapter's words.
func TestP14_1RightDrawn(t *testing.T) {
	r := rand.New(rand.NewSource(2))
	alone := map[string]int{}
	for range 3000 {
		c := drawnConfig(r)
		s := drawnRight(r, c)
		if !righted(t, c, s) {
			t.Fatalf("not right: %v", faults(c, s))
		}
		for range 20 {
			d, x := copied(c), copied(s)
			if r.Intn(4) == 0 {
				bend(r, reflect.ValueOf(&d).Elem())
			} else {
				bend(r, reflect.ValueOf(&x).Elem())
			}
			righted(t, d, x)
			if l := faults(d, x); modelMay(d) && len(l) == 1 {
				alone[l[0]]++
			} else if modelMay(d) && len(l) == 0 {
				alone["none"]++
			}
		}
	}
	for _, what := range []string{
		"none", "Now", "Next", "Mark", "labels right", "label's parent", "label's owner", "docs", "segments", "segment is loaded", "segment's text",
		"segment's label", "segment's Id", "segment's Id once", "span's mark", "site's mark", "stacks", "things", "thing is loaded", "thing's doc",
		"thing's label", "thing's mark", "thing's text", "seats", "seat's token", "seat's token once", "seat's user", "seat's Used", "seat's Seq",
		"seat's answer", "entries", "entry's user", "entry's op", "entry's status", "entry's segments", "entry's labels",
	} {
		if alone[what] < 5 {
			t.Error("too few that are wrong in this alone:", what, alone[what])
		}
	}
}

// R4: what is handed in is not changed, nor the room behind its lists; what Fresh answers is new memory.
func TestR4HandedIn(t *testing.T) {
	r := rand.New(rand.NewSource(3))
	for range 200 {
		c := drawnConfig(r)
		s := drawnRight(r, c)
		d, x := copied(c), copied(s)
		state.May(c)
		state.Right(c, s)
		state.Write(s)
		state.Most(c)
		f := state.Fresh(c)
		for i := range f.Labels {
			for _, p := range []*[]int{&f.Labels[i].Readers, &f.Labels[i].Writers} {
				for j := range *p {
					(*p)[j] = 99
				}
				*p = append(*p, 99)
			}
			f.Labels[i].Owner = 99
		}
		for i := range f.Stacks {
			f.Stacks[i] = append(f.Stacks[i], api.Undo{Kind: 9})
		}
		f.Labels, f.Stacks = append(f.Labels, api.Label{}), append(f.Stacks, nil)
		if !reflect.DeepEqual(c, d) || !reflect.DeepEqual(s, x) {
			t.Fatalf("changed: %+v, %+v", c, s)
		}
		if g := state.Fresh(c); !righted(t, c, g) {
			t.Fatalf("%+v", g)
		}
	}
	labels := append(make([]api.Label, 0, 5), api.Label{Parent: -1, Readers: append(make([]int, 0, 5), 0), Writers: make([]int, 0, 5)})
	c := config()
	c.Labels = labels
	f := state.Fresh(c)
	f.Labels = append(f.Labels, api.Label{Owner: 9})
	_, _ = append(f.Labels[0].Readers, 9), append(f.Labels[0].Writers, 9)
	if labels[:2][1].Owner != 0 || labels[0].Readers[:2][1] != 0 || labels[0].Writers[:1][0] != 0 {
		t.Error(labels[:2])
	}
}

// R7: the same asked twice is answered alike, whatever was asked between.
func TestR7(t *testing.T) {
	r := rand.New(rand.NewSource(4))
	for range 300 {
		c, s := drawnConfig(r), drawnState(r)
		b, ok := state.Write(s)
		right, n, f := state.Right(c, drawnRight(r, c)), state.Most(c), state.Fresh(c)
		state.Read(b[:len(b)-1])
		state.Write(full())
		state.Right(config(), full())
		state.Fresh(config())
		b2, ok2 := state.Write(s)
		if b != b2 || ok != ok2 || !right || state.Most(c) != n || !same(state.Fresh(c), f) {
			t.Fatalf("%+v, %+v", c, s)
		}
		read(t, b)
	}
}
