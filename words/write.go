package words

import (
	"chancel/api"
	"chancel/octets"
)

// writer: of calls and answers.
type writer struct {
	octets.Writer
}

// putList puts the length of l, in a byte, and each item by put.
func putList[T any](w *writer, l []T, put func(T)) {
	w.PutByte(len(l))
	octets.PutItems(&w.Writer, l, put)
}

func (w *writer) putRun(r api.Run) {
	w.PutNumbers(r.Id, r.Label)
	w.PutBool(r.Open)
	w.PutText(r.Text)
}

func (w *writer) putEntry(e api.Entry) {
	w.PutNumbers(e.User, e.Op, e.Status)
	putList(w, e.Segs, w.PutNumber)
	putList(w, e.Labels, w.PutNumber)
}

// putAsk puts the fields of what is asked, in the order of its type; anything else is wrong.
func (w *writer) putAsk(ask any) {
	switch a := ask.(type) {
	case api.Login:
		w.PutText(a.User)
		w.PutText(a.Password)
	case api.Logout:
	case api.Create:
		w.PutNumber(a.Label)
	case api.Insert:
		w.PutNumbers(a.Doc, a.Seg, a.At)
		w.PutText(a.Text)
	case api.Delete:
		w.PutNumbers(a.Doc, a.Seg, a.At, a.N)
	case api.Protect:
		w.PutNumbers(a.Doc, a.Seg, a.At, a.N, a.Label)
	case api.Copy:
		w.PutNumbers(a.Doc, a.Seg, a.At, a.N, a.ToDoc, a.After)
	case api.Fork:
		w.PutNumber(a.Doc)
	case api.Snap:
		w.PutNumber(a.Doc)
	case api.Unmake:
		w.PutNumber(a.Doc)
	case api.View:
		w.PutNumbers(a.Doc, a.From, a.N)
	case api.Where:
		w.PutNumbers(a.Doc, a.Offset)
	case api.Flat:
		w.PutNumbers(a.Doc, a.Seg, a.At)
	case api.Grant:
		w.PutNumbers(a.Label, a.User)
		w.PutBool(a.Write)
		w.PutBool(a.On)
	case api.Log:
		w.PutNumbers(a.From, a.N)
	default:
		w.Spoil()
	}
}
