package words

import (
	"strings"

	"chancel/api"
)

// unreadable: what a reader panics with, where there is not what is to be taken.
type unreadable struct{}

// reader: bytes that are yet to be read.
type reader struct {
	rest string
}

// whole: what take makes of all that r has; false and the zero value, if it gives up, or leaves some.
func whole[T any](r *reader, take func() T) (x T, ok bool) {
	defer func() {
		p := recover()
		// A fault of the program itself is not one of the bytes, and goes on.
		if _, given := p.(unreadable); p != nil && !given {
			panic(p)
		}
	}()
	all := take()
	if r.rest != "" {
		panic(unreadable{})
	}
	return all, true
}

// take: the next n bytes.
func (r *reader) take(n int) string {
	if n > len(r.rest) {
		panic(unreadable{})
	}
	s := r.rest[:n]
	r.rest = r.rest[n:]
	return s
}

func (r *reader) takeByte() int {
	return int(r.take(1)[0])
}

func (r *reader) takeNumber() int {
	b := r.take(8)
	var n uint64
	for i := range len(b) {
		n = n<<8 | uint64(b[i])
	}
	return int(n)
}

func (r *reader) takeText() string {
	b := r.take(2)
	// A copy: a token that is kept is not to keep all that came with it.
	return strings.Clone(r.take(int(b[0])<<8 | int(b[1])))
}

func (r *reader) takeBool() bool {
	switch r.takeByte() {
	case 0:
		return false
	case 1:
		return true
	}
	// Two bytes for one bool would be read alike, and could not both be written again.
	panic(unreadable{})
}

// takeList: the length of a list, and as many items, each by take.
func takeList[T any](r *reader, take func() T) []T {
	var l []T
	for range r.takeByte() {
		l = append(l, take())
	}
	return l
}

func (r *reader) takeRun() api.Run {
	return api.Run{Id: r.takeNumber(), Label: r.takeNumber(), Open: r.takeBool(), Text: r.takeText()}
}

func (r *reader) takeEntry() api.Entry {
	return api.Entry{
		User: r.takeNumber(), Op: r.takeNumber(), Status: r.takeNumber(),
		Segs: takeList(r, r.takeNumber), Labels: takeList(r, r.takeNumber),
	}
}

func (r *reader) takeAnswer() api.Answer {
	return api.Answer{
		Status: r.takeByte(), Token: r.takeText(), Num: r.takeNumber(), At: r.takeNumber(),
		Runs: takeList(r, r.takeRun), Entries: takeList(r, r.takeEntry),
	}
}

func (r *reader) takeCall() api.Call {
	k := kind(r.takeByte())
	return api.Call{Token: r.takeText(), Seq: r.takeNumber(), Ask: r.takeAsk(k)}
}

// takeAsk: what is asked, of that kind, its fields in the order of its type.
func (r *reader) takeAsk(k kind) any {
	switch k {
	case askLogin:
		return api.Login{User: r.takeText(), Password: r.takeText()}
	case askLogout:
		return api.Logout{}
	case askCreate:
		return api.Create{Label: r.takeNumber()}
	case askInsert:
		return api.Insert{Doc: r.takeNumber(), Seg: r.takeNumber(), At: r.takeNumber(), Text: r.takeText()}
	case askDelete:
		return api.Delete{Doc: r.takeNumber(), Seg: r.takeNumber(), At: r.takeNumber(), N: r.takeNumber()}
	case askProtect:
		return api.Protect{Doc: r.takeNumber(), Seg: r.takeNumber(), At: r.takeNumber(), N: r.takeNumber(), Label: r.takeNumber()}
	case askCopy:
		return api.Copy{Doc: r.takeNumber(), Seg: r.takeNumber(), At: r.takeNumber(), N: r.takeNumber(), ToDoc: r.takeNumber(), After: r.takeNumber()}
	case askFork:
		return api.Fork{Doc: r.takeNumber()}
	case askSnap:
		return api.Snap{Doc: r.takeNumber()}
	case askUnmake:
		return api.Unmake{Doc: r.takeNumber()}
	case askView:
		return api.View{Doc: r.takeNumber(), From: r.takeNumber(), N: r.takeNumber()}
	case askWhere:
		return api.Where{Doc: r.takeNumber(), Offset: r.takeNumber()}
	case askFlat:
		return api.Flat{Doc: r.takeNumber(), Seg: r.takeNumber(), At: r.takeNumber()}
	case askGrant:
		return api.Grant{Label: r.takeNumber(), User: r.takeNumber(), Write: r.takeBool(), On: r.takeBool()}
	case askLog:
		return api.Log{From: r.takeNumber(), N: r.takeNumber()}
	}
	panic(unreadable{})
}
