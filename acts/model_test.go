package acts_test

import (
	"cmp"
	"reflect"
	"slices"
	"testing"
	"unicode/utf8"

	"chancel/acts"
	"chancel/api"
	"chancel/salt"
	"chancel/words"
)

// letter: of a model's text: what it is, and the mark that it was put under (0: none).
type letter struct {
	is   string
	mark int
}

// part: a segment as the chapters' words tell it, letter by letter and site by site.
type part struct {
	id, label int
	letters   []letter
	sites     []api.Site
}

// paper: a document.
type paper struct {
	frozen bool
	parts  []part
}

// chair: a seat, and what was answered in it.
type chair struct {
	api.Seat
	kept *api.Answer
}

// model: a world as the chapter's words tell it.
type model struct {
	c               api.Config
	now, next, mark int
	labels          []api.Label
	papers          []paper
	stacks          [][]api.Undo
	chairs          []chair
	audit           []api.Entry
}

// deed: what comes of what is asked, and what is noted of it.
type deed struct {
	answer       api.Answer
	segs, labels []int
}

// modelOf: the model of a right state; what its seats were answered is read by layer 13.
func modelOf(c api.Config, s api.State) *model {
	s = copied(s)
	m := &model{c: c, now: s.Now, next: s.Next, mark: s.Mark, labels: s.Labels, stacks: s.Stacks, audit: s.Audit}
	for _, d := range s.Docs {
		p := paper{frozen: d.Frozen}
		for _, x := range d.Segs {
			p.parts = append(p.parts, partOf(x))
		}
		m.papers = append(m.papers, p)
	}
	for _, x := range s.Seats {
		seat := chair{Seat: x}
		if a, ok := words.Told(x.Answer); ok {
			seat.kept = &a
		}
		m.chairs = append(m.chairs, seat)
	}
	return m
}

func partOf(x api.Seg) part {
	p := part{id: x.Id, label: x.Label, sites: slices.Clone(x.Sites)}
	for _, c := range x.Text {
		p.letters = append(p.letters, letter{string(c), 0})
	}
	for _, s := range x.Spans {
		for i := s.From; i < s.To; i++ {
			p.letters[i].mark = s.Mark
		}
	}
	return p
}

// state: what m has, as plain values.
func (m *model) state() api.State {
	s := api.State{Now: m.now, Next: m.next, Mark: m.mark, Labels: m.labels, Stacks: m.stacks, Audit: m.audit}
	for _, p := range m.papers {
		d := api.Doc{Frozen: p.frozen}
		for _, x := range p.parts {
			d.Segs = append(d.Segs, x.told())
		}
		s.Docs = append(s.Docs, d)
	}
	for _, x := range m.chairs {
		s.Seats = append(s.Seats, x.Seat)
	}
	return copied(s)
}

func (p part) text() string {
	s := ""
	for _, x := range p.letters {
		s += x.is
	}
	return s
}

func (p part) told() api.Seg {
	s := api.Seg{Id: p.id, Label: p.label, Text: p.text(), Sites: slices.Clone(p.sites)}
	for i, x := range p.letters {
		last := len(s.Spans) - 1
		switch {
		case x.mark == 0:
		case i > 0 && p.letters[i-1].mark == x.mark:
			s.Spans[last].To++
		default:
			s.Spans = append(s.Spans, api.Span{Mark: x.mark, From: i, To: i + 1})
		}
	}
	slices.SortFunc(s.Sites, func(x, y api.Site) int { return cmp.Or(x.At-y.At, x.Mark-y.Mark) })
	s.Sites = slices.Compact(s.Sites)
	return s
}

// stretch: the first place of n letters from at on, and the place behind them, by counting.
func (p part) stretch(at, n int) (int, int) {
	from := 0
	for from < at && from < len(p.letters) {
		from++
	}
	to := from
	for i := 0; i < n && to < len(p.letters); i++ {
		to++
	}
	return from, to
}

func (p part) put(at int, text string, mark int) part {
	var l []letter
	for _, c := range text {
		l = append(l, letter{string(c), mark})
	}
	p.letters = slices.Concat(p.letters[:at], l, p.letters[at:])
	p.sites = slices.Clone(p.sites)
	for i := range p.sites {
		if p.sites[i].At > at {
			p.sites[i].At += len(l)
		}
	}
	return p
}

func (p part) take(a, b, mark int) part {
	p.letters = slices.Concat(p.letters[:a], p.letters[b:])
	p.sites = slices.Clone(p.sites)
	for i, x := range p.sites {
		if x.At > a {
			p.sites[i].At = max(a, x.At-(b-a))
		}
	}
	if mark > 0 {
		p.sites = append(p.sites, api.Site{Mark: mark, At: a})
	}
	return p
}

func (p part) forget(mark int) part {
	p.letters = slices.Clone(p.letters)
	for i := range p.letters {
		if p.letters[i].mark == mark {
			p.letters[i].mark = 0
		}
	}
	p.sites = slices.DeleteFunc(slices.Clone(p.sites), func(x api.Site) bool { return x.Mark == mark })
	return p
}

func (p part) has(mark int) bool {
	return slices.ContainsFunc(p.letters, func(x letter) bool { return x.mark == mark }) ||
		slices.ContainsFunc(p.sites, func(x api.Site) bool { return x.Mark == mark })
}

// bare: these letters without marks.
func bare(l []letter) []letter {
	l = slices.Clone(l)
	for i := range l {
		l[i].mark = 0
	}
	return l
}

// do: what comes of a call, as the chapter's words tell it.
func (m *model) do(c api.Call, draw string) (api.Answer, bool) {
	op := number(c.Ask)
	if op == 0 {
		return api.Answer{Status: api.Bad}, false
	}
	full := len(m.audit) == m.c.Audit || m.next > 1<<40-100 || m.mark > 1<<40-100
	if ask, ok := c.Ask.(api.Login); ok {
		if full {
			return api.Answer{Status: api.Full}, false
		}
		return m.login(ask, draw), true
	}
	at := m.chair(c.Token)
	switch {
	case at < 0:
		return api.Answer{Status: api.Token}, false
	case c.Seq == m.chairs[at].Seq && m.chairs[at].kept != nil:
		return *m.chairs[at].kept, false
	case c.Seq <= m.chairs[at].Seq:
		return api.Answer{Status: api.Old}, false
	case full:
		return api.Answer{Status: api.Full}, false
	}
	user := m.chairs[at].User
	d := m.act(user, c.Ask)
	m.audit = append(m.audit, api.Entry{User: user, Op: op, Status: d.answer.Status, Segs: d.segs, Labels: d.labels})
	if op == 2 {
		m.chairs = slices.Delete(m.chairs, at, at+1)
		return d.answer, true
	}
	x := &m.chairs[at]
	x.Seq, x.Used, x.kept = c.Seq, m.now, &d.answer
	x.Answer, _ = words.Answer(d.answer)
	return d.answer, true
}

// number: what stands for what is asked, in the order of layer 13's table; 0: it can't be asked.
func number(ask any) int {
	all := []any{api.Login{}, api.Logout{}, api.Create{}, api.Insert{}, api.Delete{}, api.Protect{}, api.Copy{},
		api.Fork{}, api.Snap{}, api.Unmake{}, api.View{}, api.Where{}, api.Flat{}, api.Grant{}, api.Log{}}
	return 1 + slices.IndexFunc(all, func(x any) bool { return reflect.TypeOf(x) == reflect.TypeOf(ask) })
}

// chair: where in m the seat of that token is that isn't past; -1: there is none.
func (m *model) chair(token string) int {
	return slices.IndexFunc(m.chairs, func(x chair) bool { return x.Token == token && m.now-x.Used <= m.c.Ttl })
}

func (m *model) login(ask api.Login, draw string) api.Answer {
	e := api.Entry{User: -1, Op: 1, Status: api.Denied}
	a := api.Answer{Status: api.Denied}
	i := slices.IndexFunc(m.c.Users, func(u api.User) bool { return u.Name == ask.User })
	if i >= 0 && m.c.Users[i].Seal == salt.Seal(m.c.Users[i].Salt, ask.Password) {
		var here []chair
		for _, x := range m.chairs {
			if m.now-x.Used <= m.c.Ttl {
				here = append(here, x)
			}
		}
		e.User = i
		switch {
		case draw == "" || len(draw) > 20 || m.chair(draw) >= 0:
			a = api.Answer{Status: api.Busy}
		case len(here) >= m.c.Seats:
			a = api.Answer{Status: api.Full}
		default:
			a = api.Answer{Token: draw}
			m.chairs = append(here, chair{Seat: api.Seat{Token: draw, User: i, Used: m.now}})
		}
		e.Status = a.Status
	}
	m.audit = append(m.audit, e)
	return a
}

// may: does user stand in the list of each label of the path?
func (m *model) may(user, label int, write bool) bool {
	if label == -1 {
		return true
	}
	x := m.labels[label]
	l := x.Readers
	if write {
		l = x.Writers
	}
	return slices.Contains(l, user) && m.may(user, x.Parent, write)
}

func (m *model) edits(user, label int) bool {
	return m.may(user, label, false) && m.may(user, label, true)
}

func (m *model) segments() int {
	n := 0
	for _, p := range m.papers {
		n += len(p.parts)
	}
	return n
}

// find: the segment of that number; nil, if there is no such document or segment.
func (m *model) find(doc, seg int) *part {
	if doc < 0 || doc >= len(m.papers) {
		return nil
	}
	for i := range m.papers[doc].parts {
		if m.papers[doc].parts[i].id == seg {
			return &m.papers[doc].parts[i]
		}
	}
	return nil
}

func (m *model) frozen(doc int) bool {
	return doc >= 0 && doc < len(m.papers) && m.papers[doc].frozen
}

func status(n int) deed {
	return deed{answer: api.Answer{Status: n}}
}

func (m *model) act(user int, ask any) deed {
	switch a := ask.(type) {
	case api.Create:
		return m.create(user, a)
	case api.Insert:
		return m.insert(user, a)
	case api.Delete:
		return m.delete(user, a)
	case api.Protect:
		return m.protect(user, a)
	case api.Copy:
		return m.copy(user, a)
	case api.Fork:
		return m.fork(a.Doc, false)
	case api.Snap:
		return m.fork(a.Doc, true)
	case api.Unmake:
		return m.unmake(user, a.Doc)
	case api.View:
		return m.view(user, a)
	case api.Where:
		return m.where(user, a)
	case api.Flat:
		return m.flat(user, a)
	case api.Grant:
		return m.grant(user, a)
	case api.Log:
		return m.log(user, a)
	}
	return deed{}
}

func (m *model) create(user int, a api.Create) deed {
	if a.Label < 0 || a.Label >= len(m.labels) {
		return status(api.None)
	}
	d := deed{labels: []int{a.Label}}
	switch {
	case !m.edits(user, a.Label):
		d.answer.Status = api.Denied
	case len(m.papers) == m.c.Docs || m.segments() == m.c.Segs:
		d.answer.Status = api.Full
	default:
		d.segs = []int{m.next}
		d.answer = api.Answer{Num: len(m.papers), At: m.next}
		m.papers = append(m.papers, paper{parts: []part{{id: m.next, label: a.Label}}})
		m.next++
	}
	return d
}

// push puts a thing on user's stack; what falls out is forgotten.
func (m *model) push(user int, u api.Undo) {
	l := append(slices.Clone(m.stacks[user]), u)
	if len(l) > m.c.Depth {
		m.forget(l[0].Doc, l[0].Mark)
		l = l[1:]
	}
	m.stacks[user] = l
}

func (m *model) forget(doc, mark int) {
	for i, x := range m.papers[doc].parts {
		m.papers[doc].parts[i] = x.forget(mark)
	}
}

func (m *model) insert(user int, a api.Insert) deed {
	x := m.find(a.Doc, a.Seg)
	if m.frozen(a.Doc) {
		return status(api.Frozen)
	}
	if x == nil {
		return status(api.None)
	}
	d := deed{segs: []int{x.id}, labels: []int{x.label}}
	if !m.edits(user, x.label) {
		d.answer.Status = api.Denied
		return d
	}
	if !utf8.ValidString(a.Text) || len(a.Text) > 400 {
		d.answer.Status = api.Bad
		return d
	}
	mark := m.mark
	m.mark++
	m.push(user, api.Undo{Kind: 1, Doc: a.Doc, Mark: mark, Label: x.label})
	if len(x.text())+len(a.Text) > m.c.Quota {
		d.answer.Status = api.Full
		return d
	}
	at, _ := x.stretch(a.At, 0)
	*x = x.put(at, a.Text, mark)
	d.answer = api.Answer{Num: len(x.letters), At: at}
	return d
}

func (m *model) delete(user int, a api.Delete) deed {
	x := m.find(a.Doc, a.Seg)
	if m.frozen(a.Doc) {
		return status(api.Frozen)
	}
	if x == nil {
		return status(api.None)
	}
	d := deed{segs: []int{x.id}, labels: []int{x.label}}
	if !m.edits(user, x.label) {
		d.answer.Status = api.Denied
		return d
	}
	from, to := x.stretch(a.At, a.N)
	u := api.Undo{Kind: 2, Doc: a.Doc, Mark: m.mark, Label: x.label, Text: part{letters: x.letters[from:to]}.text()}
	*x = x.take(from, to, m.mark)
	m.mark++
	m.push(user, u)
	d.answer = api.Answer{Num: to - from, At: from}
	return d
}

func (m *model) protect(user int, a api.Protect) deed {
	x := m.find(a.Doc, a.Seg)
	if m.frozen(a.Doc) {
		return status(api.Frozen)
	}
	if x == nil || a.Label < 0 || a.Label >= len(m.labels) {
		return status(api.None)
	}
	d := deed{segs: []int{x.id}, labels: []int{x.label, a.Label}}
	switch {
	case !m.edits(user, x.label) || !m.edits(user, a.Label):
		d.answer.Status = api.Denied
		return d
	case m.labels[a.Label].Parent != x.label:
		d.answer.Status = api.Bad
		return d
	case m.segments()+2 > m.c.Segs:
		d.answer.Status = api.Full
		return d
	}
	from, to := x.stretch(a.At, a.N)
	first := part{id: x.id, label: x.label, letters: x.letters[:from]}
	middle := part{id: m.next, label: a.Label, letters: bare(x.letters[from:to])}
	last := part{id: m.next + 1, label: x.label, letters: x.letters[to:]}
	for _, s := range x.sites {
		if s.At <= from {
			first.sites = append(first.sites, s)
		}
		if s.At > to {
			last.sites = append(last.sites, api.Site{Mark: s.Mark, At: s.At - to})
		}
	}
	m.replace(a.Doc, x.id, first, middle, last)
	d.segs = []int{first.id, m.next, m.next + 1}
	d.answer = api.Answer{Num: m.next, At: m.next + 1}
	m.next += 2
	return d
}

// replace puts l in the place of a segment.
func (m *model) replace(doc, seg int, l ...part) {
	var all []part
	for _, x := range m.papers[doc].parts {
		if x.id == seg {
			all = append(all, l...)
		} else {
			all = append(all, x)
		}
	}
	m.papers[doc].parts = all
}

func (m *model) copy(user int, a api.Copy) deed {
	x, after := m.find(a.Doc, a.Seg), m.find(a.ToDoc, a.After)
	switch {
	case x == nil:
		return status(api.None)
	case m.frozen(a.ToDoc):
		return status(api.Frozen)
	case after == nil:
		return status(api.None)
	}
	d := deed{segs: []int{x.id, after.id}, labels: []int{x.label, after.label}}
	switch {
	case !m.edits(user, x.label) || !m.edits(user, after.label):
		d.answer.Status = api.Denied
	case m.segments() == m.c.Segs:
		d.answer.Status = api.Full
	default:
		from, to := x.stretch(a.At, a.N)
		m.replace(a.ToDoc, after.id, *after, part{id: m.next, label: x.label, letters: bare(x.letters[from:to])})
		d.segs = append(d.segs, m.next)
		d.answer.Num = m.next
		m.next++
	}
	return d
}

func (m *model) fork(doc int, frozen bool) deed {
	if doc < 0 || doc >= len(m.papers) {
		return status(api.None)
	}
	if len(m.papers) == m.c.Docs || m.segments()+len(m.papers[doc].parts) > m.c.Segs {
		return status(api.Full)
	}
	p := paper{frozen: frozen}
	for _, x := range m.papers[doc].parts {
		p.parts = append(p.parts, part{id: m.next, label: x.label, letters: bare(x.letters)})
		m.next++
	}
	m.papers = append(m.papers, p)
	return deed{answer: api.Answer{Num: len(m.papers) - 1}}
}

func (m *model) unmake(user, doc int) deed {
	if doc < 0 || doc >= len(m.papers) {
		return status(api.None)
	}
	if m.papers[doc].frozen {
		return status(api.Frozen)
	}
	var u api.Undo
	for _, x := range m.stacks[user] {
		if x.Doc == doc {
			u = x
		}
	}
	if u.Kind == 0 {
		return status(api.Nothing)
	}
	d := deed{labels: []int{u.Label}}
	for _, x := range m.papers[doc].parts {
		if x.has(u.Mark) {
			d.segs = append(d.segs, x.id)
		}
	}
	if !m.edits(user, u.Label) {
		d.answer.Status = api.Denied
		return d
	}
	m.stacks[user] = slices.DeleteFunc(slices.Clone(m.stacks[user]), func(x api.Undo) bool { return x.Mark == u.Mark })
	if u.Kind == 1 {
		for _, id := range d.segs {
			x := m.find(doc, id)
			for i := 0; i < len(x.letters); {
				if x.letters[i].mark == u.Mark {
					*x = x.take(i, i+1, 0)
				} else {
					i++
				}
			}
			*x = x.forget(u.Mark)
		}
	} else if len(d.segs) > 0 {
		x := m.find(doc, d.segs[0])
		at := len(x.letters) + 1
		for _, s := range x.sites {
			if s.Mark == u.Mark {
				at = min(at, s.At)
			}
		}
		if at > len(x.letters) || len(x.text())+len(u.Text) > m.c.Quota {
			d.answer.Status = api.Full
			m.forget(doc, u.Mark)
			return d
		}
		*x = x.put(at, u.Text, 0).forget(u.Mark)
	}
	return d
}

// spots: what user sees of a document, a run for each letter, and one for each segment that isn't open.
func (m *model) spots(user, doc int) []api.Run {
	var l []api.Run
	for _, x := range m.papers[doc].parts {
		r := api.Run{Id: x.id, Label: x.label, Open: m.may(user, x.label, false)}
		if !r.Open {
			l = append(l, r)
			continue
		}
		for _, c := range x.letters {
			r.Text = c.is
			l = append(l, r)
		}
	}
	return l
}

func (m *model) view(user int, a api.View) deed {
	if a.Doc < 0 || a.Doc >= len(m.papers) {
		return status(api.None)
	}
	l := m.spots(user, a.Doc)
	d := deed{answer: api.Answer{Num: len(l)}}
	for i, x := range l {
		if i < a.From || i-max(a.From, 0) >= min(a.N, 200) {
			continue
		}
		last := len(d.answer.Runs) - 1
		if last >= 0 && d.answer.Runs[last].Id == x.Id {
			d.answer.Runs[last].Text += x.Text
		} else {
			d.answer.Runs = append(d.answer.Runs, x)
		}
	}
	return d
}

// long: how many letters user sees of a segment.
func (m *model) long(user int, x part) int {
	if m.may(user, x.label, false) {
		return len(x.letters)
	}
	return 1
}

func (m *model) where(user int, a api.Where) deed {
	if a.Doc < 0 || a.Doc >= len(m.papers) || len(m.papers[a.Doc].parts) == 0 {
		return status(api.None)
	}
	at := min(max(a.Offset, 0), len(m.spots(user, a.Doc)))
	for _, x := range m.papers[a.Doc].parts {
		if at <= m.long(user, x) {
			return deed{answer: api.Answer{Num: x.id, At: at}}
		}
		at -= m.long(user, x)
	}
	panic("an offset behind all")
}

func (m *model) flat(user int, a api.Flat) deed {
	if m.find(a.Doc, a.Seg) == nil {
		return status(api.None)
	}
	n := 0
	for _, x := range m.papers[a.Doc].parts {
		if x.id == a.Seg {
			n += min(max(a.At, 0), m.long(user, x))
			break
		}
		n += m.long(user, x)
	}
	return deed{answer: api.Answer{Num: n}}
}

func (m *model) grant(user int, a api.Grant) deed {
	if a.User < 0 || a.User >= len(m.c.Users) || a.Label < 0 || a.Label >= len(m.labels) {
		return status(api.None)
	}
	d := deed{labels: []int{a.Label}}
	if m.labels[a.Label].Owner != user {
		d.answer.Status = api.Denied
		return d
	}
	l := &m.labels[a.Label].Readers
	if a.Write {
		l = &m.labels[a.Label].Writers
	}
	var now []int
	for u := range m.c.Users {
		if u == a.User && a.On || u != a.User && slices.Contains(*l, u) {
			now = append(now, u)
		}
	}
	*l = now
	return d
}

func (m *model) log(user int, a api.Log) deed {
	var seen []api.Entry
	for _, e := range m.audit {
		closed := func(label int) bool { return !m.may(user, label, false) }
		if e.User == user || !slices.ContainsFunc(e.Labels, closed) {
			seen = append(seen, e)
		}
	}
	var d deed
	for i, e := range seen {
		if i >= a.From && i-max(a.From, 0) < min(a.N, 10) {
			d.answer.Entries = append(d.answer.Entries, e)
		}
	}
	return d
}

// copied: s in memory of its own, with each empty list nil.
func copied(s api.State) api.State {
	return deep(reflect.ValueOf(s)).Interface().(api.State)
}

// deep: v in memory of its own, with each empty list nil.
func deep(v reflect.Value) reflect.Value {
	own := reflect.New(v.Type()).Elem()
	switch v.Kind() {
	case reflect.Slice:
		if v.Len() > 0 {
			own.Set(reflect.MakeSlice(v.Type(), v.Len(), v.Len()))
		}
		for i := range v.Len() {
			own.Index(i).Set(deep(v.Index(i)))
		}
	case reflect.Struct:
		for i := range v.NumField() {
			own.Field(i).Set(deep(v.Field(i)))
		}
	default:
		own.Set(v)
	}
	return own
}

// same: are both the same values? An empty list may be nil or not.
func same(a, b any) bool {
	return reflect.DeepEqual(deep(reflect.ValueOf(a)).Interface(), deep(reflect.ValueOf(b)).Interface())
}

// loaded: the world of a state that is right.
func loaded(t *testing.T, c api.Config, s api.State) *acts.World {
	t.Helper()
	w, ok := acts.Load(c, s)
	if !ok {
		t.Fatalf("no world of %+v, %+v", c, s)
	}
	return w
}
