package words

import (
	"chancel/api"
)

const (
	greatestByte = 1<<8 - 1
	longestText  = 1<<16 - 1
)

// writer: bytes, one thing behind the other; wrong, once something came of which there are none.
type writer struct {
	out   []byte
	wrong bool
}

// written: all that was put; false, if something was wrong.
func (w *writer) written() (string, bool) {
	if w.wrong {
		return "", false
	}
	return string(w.out), true
}

func (w *writer) putByte(n int) {
	if n < 0 || n > greatestByte {
		w.wrong = true
		return
	}
	w.out = append(w.out, byte(n))
}

func (w *writer) putNumber(n int) {
	for shift := 56; shift >= 0; shift -= 8 {
		w.out = append(w.out, byte(n>>shift))
	}
}

func (w *writer) putNumbers(l ...int) {
	for _, n := range l {
		w.putNumber(n)
	}
}

func (w *writer) putText(s string) {
	n := len(s)
	if n > longestText {
		w.wrong = true
		return
	}
	w.out = append(w.out, byte(n>>8), byte(n))
	w.out = append(w.out, s...)
}

func (w *writer) putBool(b bool) {
	if b {
		w.putByte(1)
		return
	}
	w.putByte(0)
}

// putList puts the length of l, and each item by put.
func putList[T any](w *writer, l []T, put func(T)) {
	w.putByte(len(l))
	for _, x := range l {
		// What is wrong may be how many there are: those of a list of any length aren't all put for nothing.
		if w.wrong {
			return
		}
		put(x)
	}
}

func (w *writer) putRun(r api.Run) {
	w.putNumbers(r.Id, r.Label)
	w.putBool(r.Open)
	w.putText(r.Text)
}

func (w *writer) putEntry(e api.Entry) {
	w.putNumbers(e.User, e.Op, e.Status)
	putList(w, e.Segs, w.putNumber)
	putList(w, e.Labels, w.putNumber)
}

// putAsk puts the fields of what is asked, in the order of its type; anything else is wrong.
func (w *writer) putAsk(ask any) {
	switch a := ask.(type) {
	case api.Login:
		w.putText(a.User)
		w.putText(a.Password)
	case api.Logout:
	case api.Create:
		w.putNumber(a.Label)
	case api.Insert:
		w.putNumbers(a.Doc, a.Seg, a.At)
		w.putText(a.Text)
	case api.Delete:
		w.putNumbers(a.Doc, a.Seg, a.At, a.N)
	case api.Protect:
		w.putNumbers(a.Doc, a.Seg, a.At, a.N, a.Label)
	case api.Copy:
		w.putNumbers(a.Doc, a.Seg, a.At, a.N, a.ToDoc, a.After)
	case api.Fork:
		w.putNumber(a.Doc)
	case api.Snap:
		w.putNumber(a.Doc)
	case api.Unmake:
		w.putNumber(a.Doc)
	case api.View:
		w.putNumbers(a.Doc, a.From, a.N)
	case api.Where:
		w.putNumbers(a.Doc, a.Offset)
	case api.Flat:
		w.putNumbers(a.Doc, a.Seg, a.At)
	case api.Grant:
		w.putNumbers(a.Label, a.User)
		w.putBool(a.Write)
		w.putBool(a.On)
	case api.Log:
		w.putNumbers(a.From, a.N)
	default:
		w.wrong = true
	}
}
