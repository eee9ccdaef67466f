package acts

import (
	"chancel/api"
	"chancel/rights"
	"chancel/rope"
	"chancel/segment"
	"chancel/undo"
)

// insert puts a text into a segment.
func (w *World) insert(ask api.Insert, e *api.Entry) api.Answer {
	x, status := w.editable(ask.Doc, ask.Seg, e)
	if status != api.Ok {
		return only(status)
	}
	// Asked first: a text of any length isn't gone through.
	if len(ask.Text) > api.MaxText {
		return only(api.Bad)
	}
	text, ok := rope.New(ask.Text)
	if !ok {
		return only(api.Bad)
	}
	mark := w.takeMark()
	w.push(e.User, undo.Put{Doc: ask.Doc, Mark: mark, Label: x.Label()})
	// Found anew: what fell out of the stack may be forgotten in it now.
	x, _ = w.docs[ask.Doc].Find(ask.Seg)
	at := place(ask.At, x)
	x, ok = x.Insert(ask.At, text, mark, w.config.Quota)
	if !ok {
		return only(api.Full)
	}
	w.set(ask.Doc, x)
	return api.Answer{Num: x.Rope().Len(), At: at}
}

// delete takes letters out of a segment.
func (w *World) delete(ask api.Delete, e *api.Entry) api.Answer {
	x, status := w.editable(ask.Doc, ask.Seg, e)
	if status != api.Ok {
		return only(status)
	}
	at, mark := place(ask.At, x), w.takeMark()
	x, gone := x.Delete(ask.At, ask.N, mark)
	w.set(ask.Doc, x)
	w.push(e.User, undo.Took{Doc: ask.Doc, Mark: mark, Label: x.Label(), Text: gone})
	return api.Answer{Num: gone.Len(), At: at}
}

// protect puts letters of a segment under a child of its label.
func (w *World) protect(ask api.Protect, e *api.Entry) api.Answer {
	x, status := w.changeable(ask.Doc, ask.Seg)
	if status != api.Ok {
		return only(status)
	}
	if !w.isLabel(ask.Label) {
		return only(api.None)
	}
	e.Segs, e.Labels = []int{x.Id()}, []int{x.Label(), ask.Label}
	switch {
	case !w.edits(e):
		return only(api.Denied)
	case w.labels[ask.Label].Parent != x.Label():
		return only(api.Bad)
	case !w.room(2):
		return only(api.Full)
	}
	id := w.takeNumbers(2)
	first, middle, last := x.Part(ask.At, ask.N, id, id+1, ask.Label)
	w.set(ask.Doc, first)
	w.putBehind(ask.Doc, first.Id(), middle, last)
	e.Segs = append(e.Segs, id, id+1)
	return api.Answer{Num: id, At: id + 1}
}

// copy puts letters of a segment, as a new one, behind another one.
func (w *World) copy(ask api.Copy, e *api.Entry) api.Answer {
	x, ok := w.find(ask.Doc, ask.Seg)
	if !ok {
		return only(api.None)
	}
	after, status := w.changeable(ask.ToDoc, ask.After)
	if status != api.Ok {
		return only(status)
	}
	e.Segs, e.Labels = []int{x.Id(), after.Id()}, []int{x.Label(), after.Label()}
	switch {
	case !w.edits(e):
		return only(api.Denied)
	case !w.room(1):
		return only(api.Full)
	}
	id := w.takeNumbers(1)
	w.putBehind(ask.ToDoc, after.Id(), x.Piece(ask.At, ask.N, id))
	e.Segs = append(e.Segs, id)
	return api.Answer{Num: id}
}

// find: the segment of that number in a document; false, if one of both isn't there.
func (w *World) find(doc, seg int) (segment.Segment, bool) {
	if !w.isDoc(doc) {
		return segment.Segment{}, false
	}
	return w.docs[doc].Find(seg)
}

// changeable: a segment of a document that isn't frozen, or why there is none.
func (w *World) changeable(doc, seg int) (segment.Segment, int) {
	// Ahead of whether the segment is there.
	if w.isDoc(doc) && w.docs[doc].Frozen() {
		return segment.Segment{}, api.Frozen
	}
	x, ok := w.find(doc, seg)
	if !ok {
		return x, api.None
	}
	return x, api.Ok
}

// editable: a segment that the user of e may change, or why there is none; it is put to e, if it is there.
func (w *World) editable(doc, seg int, e *api.Entry) (segment.Segment, int) {
	x, status := w.changeable(doc, seg)
	if status != api.Ok {
		return x, status
	}
	e.Segs, e.Labels = []int{x.Id()}, []int{x.Label()}
	if !w.edits(e) {
		return x, api.Denied
	}
	return x, api.Ok
}

// edits: may the user of e edit each label that it is about?
func (w *World) edits(e *api.Entry) bool {
	for _, label := range e.Labels {
		if !rights.Edits(w.labels, e.User, label) {
			return false
		}
	}
	return true
}

// set puts x in the place of the segment of its number.
func (w *World) set(doc int, x segment.Segment) {
	w.docs[doc] = w.docs[doc].Set(x)
}

// putBehind puts segments, whose numbers nothing else has, behind one that is there.
func (w *World) putBehind(doc, seg int, l ...segment.Segment) {
	w.docs[doc], _ = w.docs[doc].After(seg, l...)
}

// place: at, clamped to the text of x.
func place(at int, x segment.Segment) int {
	return min(max(at, 0), x.Rope().Len())
}
