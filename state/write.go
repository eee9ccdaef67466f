package state

import (
	"chancel/api"
	"chancel/octets"
)

// writer: of states.
type writer struct {
	octets.Writer
}

// putList puts the length of l, in two bytes, and each item by put.
func putList[T any](w *writer, l []T, put func(T)) {
	w.PutPair(len(l))
	octets.PutItems(&w.Writer, l, put)
}

func (w *writer) putState(s api.State) {
	w.PutNumbers(s.Now, s.Next, s.Mark)
	putList(w, s.Labels, w.putLabel)
	putList(w, s.Docs, w.putDoc)
	putList(w, s.Stacks, w.putStack)
	putList(w, s.Seats, w.putSeat)
	putList(w, s.Audit, w.putEntry)
}

func (w *writer) putLabel(x api.Label) {
	w.PutNumbers(x.Parent, x.Owner)
	putList(w, x.Readers, w.PutNumber)
	putList(w, x.Writers, w.PutNumber)
}

func (w *writer) putDoc(d api.Doc) {
	w.PutBool(d.Frozen)
	putList(w, d.Segs, w.putSeg)
}

func (w *writer) putSeg(x api.Seg) {
	w.PutNumbers(x.Id, x.Label)
	w.PutText(x.Text)
	putList(w, x.Spans, w.putSpan)
	putList(w, x.Sites, w.putSite)
}

func (w *writer) putSpan(x api.Span) {
	w.PutNumbers(x.Mark, x.From, x.To)
}

func (w *writer) putSite(x api.Site) {
	w.PutNumbers(x.Mark, x.At)
}

func (w *writer) putStack(l []api.Undo) {
	putList(w, l, w.putThing)
}

func (w *writer) putThing(u api.Undo) {
	w.PutNumbers(u.Kind, u.Doc, u.Mark, u.Label)
	w.PutText(u.Text)
}

func (w *writer) putSeat(x api.Seat) {
	w.PutText(x.Token)
	w.PutNumbers(x.User, x.Used, x.Seq)
	w.PutText(x.Answer)
}

func (w *writer) putEntry(e api.Entry) {
	w.PutNumbers(e.User, e.Op, e.Status)
	putList(w, e.Segs, w.PutNumber)
	putList(w, e.Labels, w.PutNumber)
}
