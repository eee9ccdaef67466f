package acts

import (
	"chancel/api"
	"chancel/rights"
	"chancel/view"
)

// view: what user sees of a stretch of a document.
func (w *World) view(ask api.View, user int) api.Answer {
	if !w.isDoc(ask.Doc) {
		return only(api.None)
	}
	runs := view.Runs(w.docs[ask.Doc], w.open(user), ask.From, ask.N)
	return api.Answer{Num: view.Width(w.look(ask.Doc, user)), Runs: runs}
}

// where: the segment, and the place in it, of an offset of what user sees.
func (w *World) where(ask api.Where, user int) api.Answer {
	if !w.isDoc(ask.Doc) {
		return only(api.None)
	}
	id, at, ok := view.Address(w.look(ask.Doc, user), ask.Offset)
	if !ok {
		return only(api.None)
	}
	return api.Answer{Num: id, At: at}
}

// flat: the offset, in what user sees, of a place in a segment.
func (w *World) flat(ask api.Flat, user int) api.Answer {
	if !w.isDoc(ask.Doc) {
		return only(api.None)
	}
	offset, ok := view.Offset(w.look(ask.Doc, user), ask.Seg, ask.At)
	if !ok {
		return only(api.None)
	}
	return api.Answer{Num: offset}
}

// grant lets a user read or write a label, or no more.
func (w *World) grant(ask api.Grant, e *api.Entry) api.Answer {
	if ask.User < 0 || ask.User >= len(w.config.Users) {
		return only(api.None)
	}
	labels, status := rights.Grant(w.labels, e.User, ask.Label, ask.User, ask.Write, ask.On)
	if status != api.None {
		e.Labels = []int{ask.Label}
	}
	if status == api.Ok {
		w.labels = labels
	}
	return only(status)
}

// look: a document as user sees it.
func (w *World) look(doc, user int) []api.Piece {
	return view.Look(w.docs[doc], w.open(user))
}

// open: a question for a label: may user read it?
func (w *World) open(user int) func(label int) bool {
	return func(label int) bool { return rights.May(w.labels, user, label, false) }
}
