package state

import (
	"slices"

	"chancel/api"
	"chancel/rights"
	"chancel/salt"
	"chancel/sheet"
	"chancel/undo"
	"chancel/words"
)

const (
	// latest: the greatest time, and the greatest of the next segment's and the next mark's numbers.
	latest = 1 << 40
	// greatestOp: of what may be asked, in layer 13's table.
	greatestOp = 15
	// greatestStatus: an answer's status is told in a byte.
	greatestStatus = 255
	// longestNote: the most segments, and the most labels, of an entry: a longer list could not be told in an answer.
	longestNote = 255
)

// May: is c right?
func May(c api.Config) bool {
	return salt.Right(c.Users) && rights.Right(c.Labels, len(c.Users)) &&
		within(c.Quota, 1, api.MaxQuota) && within(c.Segs, 1, api.MaxSegs) && within(c.Docs, 1, api.MaxDocs) &&
		within(c.Depth, 1, api.MaxDepth) && within(c.Seats, 1, api.MaxSeats) && within(c.Audit, 1, api.MaxAudit) &&
		within(c.Ttl, 0, api.MaxTtl)
}

// Right: is c right, and s right for it?
func Right(c api.Config, s api.State) bool {
	return May(c) &&
		within(s.Now, 0, latest) && within(s.Next, 0, latest) && within(s.Mark, 1, latest) &&
		rightLabels(c, s.Labels) && rightDocs(c, s) && rightStacks(c, s) && rightSeats(c, s) && rightAudit(c, s.Audit)
}

// within: is n low to high?
func within(n, low, high int) bool {
	return low <= n && n <= high
}

// rightLabels: are labels right, and the config's but for who reads and writes?
func rightLabels(c api.Config, labels []api.Label) bool {
	alike := func(x, y api.Label) bool { return x.Parent == y.Parent && x.Owner == y.Owner }
	return slices.EqualFunc(labels, c.Labels, alike) && rights.Right(labels, len(c.Users))
}

// rightDocs: are the documents right, and their segments not too many, of unlike Ids in all?
func rightDocs(c api.Config, s api.State) bool {
	if len(s.Docs) > c.Docs {
		return false
	}
	var ids []int
	for _, d := range s.Docs {
		// Ahead of a look at each: a list of any length isn't gone through.
		if len(d.Segs) > c.Segs-len(ids) {
			return false
		}
		for _, x := range d.Segs {
			if !rightSeg(c, s, x) || slices.Contains(ids, x.Id) {
				return false
			}
			ids = append(ids, x.Id)
		}
		if _, ok := sheet.Load(d.Frozen, d.Segs); !ok {
			return false
		}
	}
	return true
}

// rightSeg: is x right, as far as its sheet doesn't tell?
func rightSeg(c api.Config, s api.State, x api.Seg) bool {
	if len(x.Text) > c.Quota || !within(x.Label, 0, len(s.Labels)-1) || !within(x.Id, 0, s.Next-1) {
		return false
	}
	late := func(mark int) bool { return mark >= s.Mark }
	return !slices.ContainsFunc(x.Spans, func(p api.Span) bool { return late(p.Mark) }) &&
		!slices.ContainsFunc(x.Sites, func(p api.Site) bool { return late(p.Mark) })
}

// rightStacks: is there a stack for each user, and each right?
func rightStacks(c api.Config, s api.State) bool {
	if len(s.Stacks) != len(c.Users) {
		return false
	}
	for _, l := range s.Stacks {
		if len(l) > c.Depth {
			return false
		}
		for _, u := range l {
			if !rightThing(c, s, u) {
				return false
			}
		}
		if _, ok := undo.Load(l); !ok {
			return false
		}
	}
	return true
}

// rightThing: is u right, as far as its stack doesn't tell?
func rightThing(c api.Config, s api.State, u api.Undo) bool {
	return within(u.Doc, 0, len(s.Docs)-1) && within(u.Label, 0, len(s.Labels)-1) &&
		within(u.Mark, 1, s.Mark-1) && len(u.Text) <= c.Quota
}

// rightSeats: are the seats right, not too many, and of unlike tokens?
func rightSeats(c api.Config, s api.State) bool {
	if len(s.Seats) > c.Seats {
		return false
	}
	for i, x := range s.Seats {
		taken := func(y api.Seat) bool { return y.Token == x.Token }
		if !rightSeat(c, s.Now, x) || slices.ContainsFunc(s.Seats[:i], taken) {
			return false
		}
	}
	return true
}

// rightSeat: is x right, but for the tokens of others?
func rightSeat(c api.Config, now int, x api.Seat) bool {
	return within(len(x.Token), 1, api.MaxName) && within(x.User, 0, len(c.Users)-1) &&
		within(x.Used, 0, now) && x.Seq >= 0 && rightAnswer(x.Answer)
}

// rightAnswer: is s what may be kept as an answer: none yet, or one's bytes?
func rightAnswer(s string) bool {
	if s == "" {
		return true
	}
	_, ok := words.Told(s)
	return ok
}

// rightAudit: are the entries right, and not too many?
func rightAudit(c api.Config, l []api.Entry) bool {
	if len(l) > c.Audit {
		return false
	}
	for _, e := range l {
		if !within(e.User, -1, len(c.Users)-1) || !within(e.Op, 0, greatestOp) || !within(e.Status, 0, greatestStatus) {
			return false
		}
		if len(e.Segs) > longestNote || len(e.Labels) > longestNote {
			return false
		}
	}
	return true
}
