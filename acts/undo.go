package acts

import (
	"chancel/api"
	"chancel/segment"
	"chancel/undo"
)

// unmake undoes the last thing that the user did in a document.
func (w *World) unmake(ask api.Unmake, e *api.Entry) api.Answer {
	if !w.isDoc(ask.Doc) {
		return only(api.None)
	}
	if w.docs[ask.Doc].Frozen() {
		return only(api.Frozen)
	}
	thing, ok := w.stacks[e.User].Last(ask.Doc)
	if !ok {
		return only(api.Nothing)
	}
	mark, _ := undo.Mark(thing)
	segs := w.docs[ask.Doc].With(mark)
	for _, x := range segs {
		e.Segs = append(e.Segs, x.Id())
	}
	e.Labels = []int{undo.Label(thing)}
	if !w.edits(e) {
		return only(api.Denied)
	}
	w.stacks[e.User] = w.stacks[e.User].Drop(mark)
	if _, ok := thing.(undo.Took); ok {
		return only(w.untake(ask.Doc, mark, thing, segs))
	}
	for _, x := range segs {
		w.set(ask.Doc, x.Unput(mark))
	}
	return only(api.Ok)
}

// untake puts back what a thing has taken, into the first of these segments, and tells the status.
func (w *World) untake(doc, mark int, thing any, segs []segment.Segment) int {
	// Its place may be gone, under another label: there is nothing to be put back to.
	if len(segs) == 0 {
		return api.Ok
	}
	x, ok := segs[0].Untake(mark, undo.Text(thing), w.config.Quota)
	if !ok {
		w.forget(doc, mark)
		return api.Full
	}
	w.set(doc, x)
	return api.Ok
}

// push puts a thing on the user's stack; what falls out can be undone no more.
func (w *World) push(user int, thing any) {
	stack, out := w.stacks[user].Push(thing, w.config.Depth)
	w.stacks[user] = stack
	switch x := out.(type) {
	case undo.Put:
		w.forget(x.Doc, x.Mark)
	case undo.Took:
		w.forget(x.Doc, x.Mark)
	}
}

// forget drops a mark in each segment of a document; what it stands for stays as it is.
func (w *World) forget(doc, mark int) {
	for _, x := range w.docs[doc].With(mark) {
		w.set(doc, x.Forget(mark))
	}
}
