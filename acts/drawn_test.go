package acts_test

import (
	"math"
	"math/rand"
	"slices"
	"strconv"
	"strings"
	"testing"

	"chancel/acts"
	"chancel/api"
	"chancel/salt"
	"chancel/state"
)

// drawing: a world and its model, and the moves that are drawn for both.
type drawing struct {
	t *testing.T
	r *rand.Rand
	c api.Config
	w *acts.World
	m *model
	// done: how often each op came to each status.
	done map[[2]int]int
}

func name(user int) string {
	return "user " + strconv.Itoa(user)
}

// drawConfig: a small config that is right.
func drawConfig(r *rand.Rand) api.Config {
	c := api.Config{Quota: 1 + r.Intn(25), Segs: 1 + r.Intn(9), Docs: 1 + r.Intn(4), Depth: 1 + r.Intn(4),
		Seats: 1 + r.Intn(4), Audit: 30 + r.Intn(71), Ttl: r.Intn(12)}
	for i := range 1 + r.Intn(4) {
		s := strings.Repeat("s", r.Intn(3))
		c.Users = append(c.Users, api.User{Name: name(i), Salt: s, Seal: salt.Seal(s, "p")})
	}
	for i := range 1 + r.Intn(4) {
		c.Labels = append(c.Labels, api.Label{Parent: r.Intn(i+1) - 1, Owner: r.Intn(len(c.Users)),
			Readers: drawUsers(r, len(c.Users)), Writers: drawUsers(r, len(c.Users))})
	}
	return c
}

// drawUsers: users, rising; most of them, so that much may be done.
func drawUsers(r *rand.Rand, users int) []int {
	var l []int
	for i := range users {
		if r.Intn(5) > 0 {
			l = append(l, i)
		}
	}
	return l
}

// number: one from -1 to most, or at times one of any size.
func (x *drawing) number(most int) int {
	if x.r.Intn(60) == 0 {
		l := []int{math.MinInt, math.MaxInt, 1 << 40, -1 << 40, math.MinInt + 1}
		return l[x.r.Intn(len(l))]
	}
	if x.r.Intn(12) == 0 {
		return -1
	}
	return x.r.Intn(most + 1)
}

// seg: a number of a segment, mostly of one that is there.
func (x *drawing) seg(doc int) int {
	if doc >= 0 && doc < len(x.m.papers) && x.r.Intn(8) > 0 {
		if l := x.m.papers[doc].parts; len(l) > 0 {
			return l[x.r.Intn(len(l))].id
		}
	}
	return x.number(x.m.next)
}

func (x *drawing) text() string {
	if x.r.Intn(20) == 0 {
		return []string{"\xff", "a\xc3", strings.Repeat("a", 401), strings.Repeat("€", 134)}[x.r.Intn(4)]
	}
	s := ""
	for range x.r.Intn(5) {
		s += string([]rune("abcdeäö€𝄞")[x.r.Intn(9)])
	}
	return s
}

// ask: something to ask.
func (x *drawing) ask() any {
	doc := x.number(max(len(x.m.papers), 1))
	if x.r.Intn(5) > 0 {
		doc = x.r.Intn(max(len(x.m.papers), 1))
	}
	seg, at, n := x.seg(doc), x.number(12), x.number(9)
	label := x.number(len(x.c.Labels))
	switch x.r.Intn(30) {
	case 0:
		return api.Logout{}
	case 1, 2:
		return api.Create{Label: label}
	case 3, 4, 5, 6, 7, 8:
		return api.Insert{Doc: doc, Seg: seg, At: at, Text: x.text()}
	case 9, 10, 11, 12:
		return api.Delete{Doc: doc, Seg: seg, At: at, N: n}
	case 13, 14:
		return api.Protect{Doc: doc, Seg: seg, At: at, N: n, Label: label}
	case 15:
		to := x.number(max(len(x.m.papers), 1))
		return api.Copy{Doc: doc, Seg: seg, At: at, N: n, ToDoc: to, After: x.seg(to)}
	case 16:
		return api.Fork{Doc: doc}
	case 17:
		return api.Snap{Doc: doc}
	case 18, 19, 20, 21, 22:
		return api.Unmake{Doc: doc}
	case 23, 24:
		return api.View{Doc: doc, From: at, N: x.number(30)}
	case 25:
		return api.Where{Doc: doc, Offset: x.number(20)}
	case 26:
		return api.Flat{Doc: doc, Seg: seg, At: at}
	case 27:
		return api.Grant{Label: label, User: x.number(len(x.c.Users)), Write: x.r.Intn(2) == 0, On: x.r.Intn(3) > 0}
	case 28:
		return api.Log{From: x.number(20), N: x.number(12)}
	}
	return []any{nil, 7, &api.Logout{}, []any{api.Logout{}}, "", struct{}{}}[x.r.Intn(6)]
}

// call: one, and a draw.
func (x *drawing) call() (api.Call, string) {
	draw := []string{"t0", "t1", "t2", "t3", "t4", "", strings.Repeat("t", 20), strings.Repeat("t", 21)}[x.r.Intn(8)]
	if x.r.Intn(8) == 0 || len(x.m.chairs) == 0 {
		login := api.Login{User: name(x.r.Intn(len(x.c.Users))), Password: "p"}
		if x.r.Intn(6) == 0 {
			login = api.Login{User: name(x.r.Intn(6)), Password: []string{"", "p", "q"}[x.r.Intn(3)]}
		}
		return api.Call{Token: draw, Seq: x.number(3), Ask: login}, draw
	}
	c := api.Call{Token: draw, Ask: x.ask()}
	if x.r.Intn(10) > 0 {
		i := x.r.Intn(len(x.m.chairs))
		c.Token = x.m.chairs[i].Token
		c.Seq = min(x.m.chairs[i].Seq, 1<<50) + []int{-1, 0, 1, 1, 1, 1, 1, 1, 1, 2}[x.r.Intn(10)]
	}
	return c, draw
}

// step does one move, and holds what comes of it against the model.
func (x *drawing) step() {
	x.t.Helper()
	if x.r.Intn(15) == 0 {
		n := x.r.Intn(6) - 1
		x.w.Tick(n)
		x.m.now += max(n, 0)
	}
	if x.r.Intn(40) == 0 {
		x.w = loaded(x.t, x.c, x.w.State())
	}
	c, draw := x.call()
	before := x.w.State()
	got, changed := x.w.Do(c, draw)
	want, should := x.m.do(c, draw)
	if !same(got, want) || changed != should {
		x.t.Fatalf("%+v (%T) of %+v:\n%+v, %v, not\n%+v, %v", c, c.Ask, before, got, changed, want, should)
	}
	after := x.w.State()
	if !same(after, x.m.state()) {
		x.t.Fatalf("%+v (%T) of\n%+v:\n%+v, not\n%+v", c, c.Ask, before, after, x.m.state())
	}
	if !state.Right(x.c, after) {
		x.t.Fatalf("%+v (%T) of\n%+v:\n%+v isn't right", c, c.Ask, before, after)
	}
	if !changed && !same(before, after) {
		x.t.Fatalf("%+v (%T) said to change nothing of\n%+v:\n%+v", c, c.Ask, before, after)
	}
	if changed {
		x.done[[2]int{number(c.Ask), got.Status}]++
	}
	x.kept(c, before, after, got, changed)
}

// kept holds what must not change of before against after.
func (x *drawing) kept(c api.Call, before, after api.State, a api.Answer, changed bool) {
	x.t.Helper()
	n := len(before.Audit)
	if changed && len(after.Audit) != n+1 || !changed && len(after.Audit) != n || !same(before.Audit, after.Audit[:n]) {
		x.t.Fatalf("%+v: the audit was %+v, is %+v", c, before.Audit, after.Audit)
	}
	if !changed {
		return
	}
	e := after.Audit[n]
	if e.Status != a.Status || e.Op != number(c.Ask) {
		x.t.Fatalf("%+v: noted %+v", c, e)
	}
	for i, l := range before.Labels {
		if !same(l, after.Labels[i]) && l.Owner != e.User {
			x.t.Fatalf("%+v: user %d, who isn't the owner of %d: %+v", c, e.User, i, after.Labels)
		}
	}
	for i, d := range before.Docs {
		if d.Frozen && !same(d, after.Docs[i]) {
			x.t.Fatalf("%+v: frozen %+v, is %+v", c, d, after.Docs[i])
		}
		for _, s := range d.Segs {
			if e.User < 0 || !modelOf(x.c, before).edits(e.User, s.Label) {
				x.stays(c, s, after.Docs[i])
			}
		}
	}
}

// stays: is the text of s in d as it was?
func (x *drawing) stays(c api.Call, s api.Seg, d api.Doc) {
	x.t.Helper()
	i := slices.IndexFunc(d.Segs, func(y api.Seg) bool { return y.Id == s.Id })
	if i < 0 || d.Segs[i].Text != s.Text || d.Segs[i].Label != s.Label {
		x.t.Fatalf("%+v: %+v may not be edited, is in %+v", c, s, d)
	}
}

// begin: a drawing from the beginning of a house.
func begin(t *testing.T, seed int64, done map[[2]int]int) *drawing {
	t.Helper()
	r := rand.New(rand.NewSource(seed))
	c := drawConfig(r)
	w, ok := acts.New(c)
	if !ok {
		t.Fatalf("no world of %+v", c)
	}
	return &drawing{t: t, r: r, c: c, w: w, m: modelOf(c, state.Fresh(c)), done: done}
}

func TestP15_1Drawn(t *testing.T) {
	done := map[[2]int]int{}
	for seed := range int64(300) {
		x := begin(t, seed, done)
		for range 110 {
			x.step()
		}
	}
	for op, statuses := range can() {
		for _, s := range statuses {
			if done[[2]int{op, s}] == 0 {
				t.Errorf("op %d never came to status %d", op, s)
			}
		}
	}
	for x, n := range done {
		if !slices.Contains(can()[x[0]], x[1]) {
			t.Errorf("op %d came to status %d: %d times", x[0], x[1], n)
		}
	}
}

// can: the statuses that the chapter tells of each op that is done.
func can() [][]int {
	const (
		ok, bad, denied, full, none, frozen = api.Ok, api.Bad, api.Denied, api.Full, api.None, api.Frozen
	)
	return [][]int{
		{},
		{ok, denied, full, api.Busy},
		{ok},
		{ok, none, denied, full},
		{ok, none, frozen, denied, bad, full},
		{ok, none, frozen, denied},
		{ok, none, frozen, denied, bad, full},
		{ok, none, frozen, denied, full},
		{ok, none, full},
		{ok, none, full},
		{ok, none, frozen, api.Nothing, denied, full},
		{ok, none},
		{ok, none},
		{ok, none},
		{ok, none, denied},
		{ok},
	}
}
