package acts

import (
	"chancel/api"
	"chancel/audit"
	"chancel/desk"
	"chancel/salt"
	"chancel/words"
)

const (
	// lastNumber: above it no call is begun, lest one that takes several numbers get above those that a state may have.
	lastNumber = 1<<40 - 100
	// nobody: of entries of those who didn't say who they are.
	nobody = -1
)

// Do: the answer to c, draw being the token if it is a login; and whether anything has changed.
func (w *World) Do(c api.Call, draw string) (api.Answer, bool) {
	switch {
	case w == nil:
		return only(api.Down), false
	case words.Op(c.Ask) == 0:
		return only(api.Bad), false
	}
	return w.answer(c, draw)
}

// answer: of a call that asks something.
func (w *World) answer(c api.Call, draw string) (api.Answer, bool) {
	if ask, ok := c.Ask.(api.Login); ok {
		return w.login(ask, draw)
	}
	user, ok := desk.Who(w.seats, c.Token, w.now, w.config.Ttl)
	if !ok {
		return only(api.Token), false
	}
	kept, status := desk.Begin(w.seats, c.Token, c.Seq, w.now, w.config.Ttl)
	switch {
	case status == api.Busy:
		return again(kept), false
	case status != api.Ok:
		return only(status), false
	case w.full():
		return only(api.Full), false
	}
	e := &api.Entry{User: user, Op: words.Op(c.Ask)}
	a := w.act(c.Ask, e)
	w.note(e, a.Status)
	w.settle(c, a)
	return a, true
}

// login: a seat for a user who knows their password, with draw as its token.
func (w *World) login(ask api.Login, draw string) (api.Answer, bool) {
	if w.full() {
		return only(api.Full), false
	}
	e := &api.Entry{User: nobody, Op: words.Op(ask)}
	user, ok := salt.Find(w.config.Users, ask.User, ask.Password)
	if !ok {
		w.note(e, api.Denied)
		return only(api.Denied), true
	}
	e.User = user
	status := w.seat(user, draw)
	w.note(e, status)
	if status != api.Ok {
		return only(status), true
	}
	return api.Answer{Token: draw}, true
}

// seat gives user a seat, if that can be, and tells the status.
func (w *World) seat(user int, draw string) int {
	if len(draw) > api.MaxName {
		return api.Busy
	}
	seats, status := desk.Open(w.seats, draw, user, w.now, w.config.Ttl, w.config.Seats)
	w.seats = seats
	return status
}

// act does what is asked, and puts to e what it was about. A refusal changes nothing but what it says.
func (w *World) act(ask any, e *api.Entry) api.Answer {
	switch a := ask.(type) {
	case api.Create:
		return w.create(a, e)
	case api.Insert:
		return w.insert(a, e)
	case api.Delete:
		return w.delete(a, e)
	case api.Protect:
		return w.protect(a, e)
	case api.Copy:
		return w.copy(a, e)
	case api.Fork:
		return w.fork(a.Doc, false)
	case api.Snap:
		return w.fork(a.Doc, true)
	case api.Unmake:
		return w.unmake(a, e)
	case api.View:
		return w.view(a, e.User)
	case api.Where:
		return w.where(a, e.User)
	case api.Flat:
		return w.flat(a, e.User)
	case api.Grant:
		return w.grant(a, e)
	case api.Log:
		return api.Answer{Entries: audit.Page(w.labels, e.User, w.audit, a.From, a.N)}
	}
	// A Logout, whose seat is closed behind the note.
	return only(api.Ok)
}

// note puts e to the audit, with what came of it.
func (w *World) note(e *api.Entry, status int) {
	e.Status = status
	// There is room: the world isn't full.
	w.audit, _ = audit.Add(w.audit, *e, w.config.Audit)
}

// settle keeps what was answered in the seat of the call, or closes that behind a logout.
func (w *World) settle(c api.Call, a api.Answer) {
	if _, ok := c.Ask.(api.Logout); ok {
		w.seats = desk.Close(w.seats, c.Token)
		return
	}
	// No answer of a world is too long to have bytes.
	told, _ := words.Answer(a)
	w.seats = desk.Done(w.seats, c.Token, c.Seq, w.now, told)
}

// again: the answer that was kept, to a call that is sent once more.
func again(kept string) api.Answer {
	a, ok := words.Told(kept)
	if !ok {
		return only(api.Old)
	}
	return a
}

// full: is there no room in the audit, or for the numbers that one call may take?
func (w *World) full() bool {
	return len(w.audit) >= w.config.Audit || w.next > lastNumber || w.mark > lastNumber
}

// only: the answer of that status, and nothing beside.
func only(status int) api.Answer {
	return api.Answer{Status: status}
}
