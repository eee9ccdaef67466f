package acts

import (
	"chancel/api"
	"chancel/sheet"
)

// create makes a document of one empty segment.
func (w *World) create(ask api.Create, e *api.Entry) api.Answer {
	if !w.isLabel(ask.Label) {
		return only(api.None)
	}
	e.Labels = []int{ask.Label}
	switch {
	case !w.edits(e):
		return only(api.Denied)
	case !w.roomForDoc(1):
		return only(api.Full)
	}
	id := w.takeNumbers(1)
	// An empty segment can be loaded, whatever its numbers.
	doc, _ := sheet.Load(false, []api.Seg{{Id: id, Label: ask.Label}})
	e.Segs = []int{id}
	return api.Answer{Num: w.addDoc(doc), At: id}
}

// fork makes a document like another one, frozen or not.
func (w *World) fork(doc int, frozen bool) api.Answer {
	if !w.isDoc(doc) {
		return only(api.None)
	}
	n := len(w.docs[doc].Segs())
	if !w.roomForDoc(n) {
		return only(api.Full)
	}
	return api.Answer{Num: w.addDoc(w.docs[doc].Fork(w.takeNumbers(n), frozen))}
}

// addDoc puts a document behind all others, and tells its number.
func (w *World) addDoc(doc sheet.Sheet) int {
	w.docs = append(w.docs, doc)
	return len(w.docs) - 1
}

// isDoc: is there a document of that number?
func (w *World) isDoc(doc int) bool {
	return 0 <= doc && doc < len(w.docs)
}

// isLabel: is there a label of that number?
func (w *World) isLabel(label int) bool {
	return 0 <= label && label < len(w.labels)
}

// roomForDoc: is there room for a document more, of n segments?
func (w *World) roomForDoc(n int) bool {
	return len(w.docs) < w.config.Docs && w.room(n)
}

// room: is there room for n segments more?
func (w *World) room(n int) bool {
	for _, d := range w.docs {
		n += len(d.Segs())
	}
	return n <= w.config.Segs
}

// takeNumbers: the first of the next n segments' numbers, which are nothing else's from now on.
func (w *World) takeNumbers(n int) int {
	first := w.next
	w.next += n
	return first
}

// takeMark: the next mark, which is nothing else's from now on.
func (w *World) takeMark() int {
	mark := w.mark
	w.mark++
	return mark
}
