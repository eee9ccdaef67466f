package image

import (
	"chancel/acts"
	"chancel/api"
	"chancel/octets"
	"chancel/words"
)

const (
	tickKind = 't'
	callKind = 'd'
	// mostRecord: a longer one isn't appended, so that any finds room in an empty ring.
	mostRecord = 2000
)

// tickRecord: the record of a Tick.
func tickRecord(n int) string {
	w := &octets.Writer{}
	w.PutByte(tickKind)
	w.PutNumber(n)
	s, _ := w.Written()
	return s
}

// callRecord: the record of a call and its draw; false, if there is none, or it is too long.
func callRecord(c api.Call, draw string) (string, bool) {
	w := &octets.Writer{}
	w.PutByte(callKind)
	w.PutText(draw)
	s, ok := w.Written()
	asked, may := words.Call(c)
	if !ok || !may || len(s)+len(asked) > mostRecord {
		return "", false
	}
	return s + asked, true
}

// redo does with w what a record tells; false, if it is none.
func redo(w *acts.World, record string) bool {
	r := octets.Of(record)
	do, ok := octets.Whole(&r, func() func(*acts.World) { return takeDeed(&r) })
	if ok {
		do(w)
	}
	return ok
}

// takeDeed: what a record tells, to be done with a world.
func takeDeed(r *octets.Reader) func(*acts.World) {
	switch r.TakeByte() {
	case tickKind:
		n := r.TakeNumber()
		return func(w *acts.World) { w.Tick(n) }
	case callKind:
		draw := r.TakeText()
		c, ok := words.Ask(r.TakeRest())
		if ok {
			return func(w *acts.World) { w.Do(c, draw) }
		}
	}
	r.GiveUp()
	return nil
}
