package state

import (
	"chancel/api"
	"chancel/octets"
)

// reader: of states.
type reader struct {
	octets.Reader
}

// takeList: the length of a list, in two bytes, and as many items, each by take.
func takeList[T any](r *reader, take func() T) []T {
	return octets.TakeItems(r.TakePair(), take)
}

func (r *reader) takeState() api.State {
	return api.State{
		Now: r.TakeNumber(), Next: r.TakeNumber(), Mark: r.TakeNumber(),
		Labels: takeList(r, r.takeLabel), Docs: takeList(r, r.takeDoc), Stacks: takeList(r, r.takeStack),
		Seats: takeList(r, r.takeSeat), Audit: takeList(r, r.takeEntry),
	}
}

func (r *reader) takeLabel() api.Label {
	return api.Label{
		Parent: r.TakeNumber(), Owner: r.TakeNumber(),
		Readers: takeList(r, r.TakeNumber), Writers: takeList(r, r.TakeNumber),
	}
}

func (r *reader) takeDoc() api.Doc {
	return api.Doc{Frozen: r.TakeBool(), Segs: takeList(r, r.takeSeg)}
}

func (r *reader) takeSeg() api.Seg {
	return api.Seg{
		Id: r.TakeNumber(), Label: r.TakeNumber(), Text: r.TakeText(),
		Spans: takeList(r, r.takeSpan), Sites: takeList(r, r.takeSite),
	}
}

func (r *reader) takeSpan() api.Span {
	return api.Span{Mark: r.TakeNumber(), From: r.TakeNumber(), To: r.TakeNumber()}
}

func (r *reader) takeSite() api.Site {
	return api.Site{Mark: r.TakeNumber(), At: r.TakeNumber()}
}

func (r *reader) takeStack() []api.Undo {
	return takeList(r, r.takeThing)
}

func (r *reader) takeThing() api.Undo {
	return api.Undo{
		Kind: r.TakeNumber(), Doc: r.TakeNumber(), Mark: r.TakeNumber(), Label: r.TakeNumber(), Text: r.TakeText(),
	}
}

func (r *reader) takeSeat() api.Seat {
	return api.Seat{
		Token: r.TakeText(), User: r.TakeNumber(), Used: r.TakeNumber(), Seq: r.TakeNumber(), Answer: r.TakeText(),
	}
}

func (r *reader) takeEntry() api.Entry {
	return api.Entry{
		User: r.TakeNumber(), Op: r.TakeNumber(), Status: r.TakeNumber(),
		Segs: takeList(r, r.TakeNumber), Labels: takeList(r, r.TakeNumber),
	}
}
