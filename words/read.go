package words

import (
	"chancel/api"
	"chancel/octets"
)

// reader: of calls and answers.
type reader struct {
	octets.Reader
}

// takeList: the length of a list, in a byte, and as many items, each by take.
func takeList[T any](r *reader, take func() T) []T {
	return octets.TakeItems(r.TakeByte(), take)
}

func (r *reader) takeRun() api.Run {
	return api.Run{Id: r.TakeNumber(), Label: r.TakeNumber(), Open: r.TakeBool(), Text: r.TakeText()}
}

func (r *reader) takeEntry() api.Entry {
	return api.Entry{
		User: r.TakeNumber(), Op: r.TakeNumber(), Status: r.TakeNumber(),
		Segs: takeList(r, r.TakeNumber), Labels: takeList(r, r.TakeNumber),
	}
}

func (r *reader) takeAnswer() api.Answer {
	return api.Answer{
		Status: r.TakeByte(), Token: r.TakeText(), Num: r.TakeNumber(), At: r.TakeNumber(),
		Runs: takeList(r, r.takeRun), Entries: takeList(r, r.takeEntry),
	}
}

func (r *reader) takeCall() api.Call {
	k := kind(r.TakeByte())
	return api.Call{Token: r.TakeText(), Seq: r.TakeNumber(), Ask: r.takeAsk(k)}
}

// takeAsk: what is asked, of that kind, its fields in the order of its type.
func (r *reader) takeAsk(k kind) any {
	switch k {
	case askLogin:
		return api.Login{User: r.TakeText(), Password: r.TakeText()}
	case askLogout:
		return api.Logout{}
	case askCreate:
		return api.Create{Label: r.TakeNumber()}
	case askInsert:
		return api.Insert{Doc: r.TakeNumber(), Seg: r.TakeNumber(), At: r.TakeNumber(), Text: r.TakeText()}
	case askDelete:
		return api.Delete{Doc: r.TakeNumber(), Seg: r.TakeNumber(), At: r.TakeNumber(), N: r.TakeNumber()}
	case askProtect:
		return api.Protect{Doc: r.TakeNumber(), Seg: r.TakeNumber(), At: r.TakeNumber(), N: r.TakeNumber(), Label: r.TakeNumber()}
	case askCopy:
		return api.Copy{Doc: r.TakeNumber(), Seg: r.TakeNumber(), At: r.TakeNumber(), N: r.TakeNumber(), ToDoc: r.TakeNumber(), After: r.TakeNumber()}
	case askFork:
		return api.Fork{Doc: r.TakeNumber()}
	case askSnap:
		return api.Snap{Doc: r.TakeNumber()}
	case askUnmake:
		return api.Unmake{Doc: r.TakeNumber()}
	case askView:
		return api.View{Doc: r.TakeNumber(), From: r.TakeNumber(), N: r.TakeNumber()}
	case askWhere:
		return api.Where{Doc: r.TakeNumber(), Offset: r.TakeNumber()}
	case askFlat:
		return api.Flat{Doc: r.TakeNumber(), Seg: r.TakeNumber(), At: r.TakeNumber()}
	case askGrant:
		return api.Grant{Label: r.TakeNumber(), User: r.TakeNumber(), Write: r.TakeBool(), On: r.TakeBool()}
	case askLog:
		return api.Log{From: r.TakeNumber(), N: r.TakeNumber()}
	}
	r.GiveUp()
	return nil
}
