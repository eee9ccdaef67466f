package image_test

import (
	"math"
	"reflect"
	"slices"
	"strings"
	"testing"

	"chancel/acts"
	"chancel/api"
	"chancel/image"
	"chancel/plate"
	"chancel/salt"
	"chancel/state"
	"chancel/words"
)

// P18.1: the example of the chapter.
func TestP18_1Example(t *testing.T) {
	c := config()
	d := disk(t, c)
	m := opened(t, c, d)
	if a, done := m.Do(login(), "t"); a.Status != ok || a.Token != "t" || !done {
		t.Fatal(a, done)
	}
	if a, done := m.Do(call(1, api.Create{Label: 0}), ""); a.Status != ok || !done {
		t.Fatal(a, done)
	}
	was := m.State()
	d.Fall(nil)
	now := opened(t, c, d).State()
	if bytesOf(t, now) != bytesOf(t, was) || len(now.Seats) != 1 || len(now.Docs) != 1 || len(now.Audit) != 2 {
		t.Errorf("%+v, not %+v", now, was)
	}
}

// P18.1: a new disk holds the state that a house begins with.
func TestP18_1Fresh(t *testing.T) {
	for _, c := range []api.Config{least(), config(), greatest()} {
		m := opened(t, c, disk(t, c))
		if got, want := bytesOf(t, m.State()), bytesOf(t, state.Fresh(c)); got != want {
			t.Errorf("%q, not %q", got, want)
		}
	}
}

// greatest: a config with the largest disk.
func greatest() api.Config {
	c := api.Config{
		Quota: api.MaxQuota, Segs: api.MaxSegs, Docs: api.MaxDocs, Depth: api.MaxDepth, Seats: api.MaxSeats, Audit: api.MaxAudit, Ttl: api.MaxTtl,
	}
	var all []int
	for i := range api.MaxUsers {
		name := strings.Repeat(string(rune('a'+i)), api.MaxName)
		c.Users = append(c.Users, api.User{Name: name, Salt: name, Seal: salt.Seal(name, "p")})
		all = append(all, i)
	}
	for i := range api.MaxLabels {
		c.Labels = append(c.Labels, api.Label{Parent: i - 1, Readers: all, Writers: all})
	}
	return c
}

// P18.1: a title, 60 plates of a ring, and two areas; none of a config that isn't right.
func TestP18_1Plates(t *testing.T) {
	for _, x := range []struct {
		c    api.Config
		want int
	}{
		// 2937, 19154 and 694280 bytes want 23, 150 and 5425 plates.
		{least(), 61 + 2*23}, {config(), 61 + 2*150}, {greatest(), 61 + 2*5425},
	} {
		if got := image.Plates(x.c); got != x.want {
			t.Errorf("%d, not %d", got, x.want)
		}
	}
	for i, c := range wrongConfigs() {
		if n := image.Plates(c); n != 0 {
			t.Error(i, n)
		}
	}
}

// P18.1: at each remainder of an area's bytes it has just as many plates as they want.
func TestP18_1PlatesOfEachLength(t *testing.T) {
	left := [128]int{}
	c := least()
	// A byte of quota more takes 29 bytes more then, so that no remainder is left out.
	c.Depth = 4
	for quota := 1; quota <= 128; quota++ {
		c.Quota = quota
		left[state.Most(c)%128]++
		if got, want := image.Plates(c), 61+2*areaOf(c); got != want {
			t.Errorf("quota %d: %d, not %d", quota, got, want)
		}
	}
	if slices.Min(left[:]) != 1 {
		t.Error("remainders are missing", left)
	}
}

// P18.1: what lies on which plate, byte by byte.
func TestP18_1Bytes(t *testing.T) {
	c := least()
	d := disk(t, c)
	m := opened(t, c, d)
	holds := func(plates map[int]string) {
		t.Helper()
		for i := range d.Size() {
			want, ok := plates[i]
			if got, _ := d.Get(i); got != filled(want) {
				t.Errorf("plate %d: %q, not %q (%v)", i, got, want, ok)
			}
		}
	}
	const zero = "\x00\x00\x00\x00\x00\x00\x00"
	const one, two = 1 + 23, 1 + 2*23 // the second area, the ring
	plates := map[int]string{}
	holds(plates)
	if !m.Tick(258) || !m.Tick(-5) {
		t.Fatal("Tick")
	}
	plates[two] = "H" + zero + "\x00\x00\x09"
	plates[two+1] = "Bt\x00\x00\x00\x00\x00\x00\x01\x02"
	plates[two+2] = "H" + zero + "\x01\x00\x09"
	plates[two+3] = "Bt\x00" + zero
	holds(plates)
	m.Do(login(), "tok")
	plates[two+4] = "H" + zero + "\x02\x00\x19"
	plates[two+5] = "Bd\x00\x03tok\x01\x00\x00\x00" + zero + "\x00\x03ann\x00\x01p"
	holds(plates)
	if !m.Snapshot() {
		t.Fatal("Snapshot")
	}
	lay := func(first int, s string) {
		for i := 0; i*128 < len(s); i++ {
			plates[first+i] = s[i*128 : min(i*128+128, len(s))]
		}
	}
	s := bytesOf(t, m.State())
	lay(one, s)
	plates[0] = "T\x01" + eight(len(s)) + zero + "\x06" + zero + "\x03"
	holds(plates)
	// Three numbers, five lists, a label, a stack, a seat and an entry: more than a plate holds.
	if len(s) != 24+5*2+36+2+31+28 {
		t.Error(len(s))
	}
	if !m.Tick(1) || !m.Snapshot() {
		t.Fatal("Tick, Snapshot")
	}
	plates[two+6] = "H" + zero + "\x03\x00\x09"
	plates[two+7] = "Bt" + zero + "\x01"
	s = bytesOf(t, m.State())
	lay(1, s)
	plates[0] = "T\x00" + eight(len(s)) + zero + "\x08" + zero + "\x04"
	holds(plates)
}

// P18.1, R1, R2: each status of Open ahead of the next, of which all apply.
func TestP18_1R1Open(t *testing.T) {
	c := config()
	none := func(name string, c api.Config, d *plate.Disk, want int) {
		t.Helper()
		if m, s := image.Open(c, d); m != nil || s != want {
			t.Errorf("%s: %v, %d, not %d", name, m, s, want)
		}
	}
	// off: a disk of n plates with a wrong title, that is off.
	wrong := func(n int, off bool) *plate.Disk {
		d := made(t, n)
		d.Lay(0, "junk")
		if off {
			d.Limit(0)
			d.Barrier()
		}
		return d
	}
	n := image.Plates(c)
	for i, x := range wrongConfigs() {
		for _, d := range []*plate.Disk{nil, {}, wrong(1, true), wrong(n, true), wrong(n, false), made(t, n), made(t, 16384)} {
			if m, s := image.Open(x, d); m != nil || s != api.Bad {
				t.Error(i, m, s)
			}
		}
	}
	none("no disk", c, nil, api.Down)
	none("off", c, wrong(n, true), api.Down)
	none("off and small", c, wrong(n-1, true), api.Down)
	none("small", c, wrong(n-1, false), api.Full)
	none("one plate", c, made(t, 1), api.Full)
	none("no plates", c, &plate.Disk{}, api.Full)
	none("small for the greatest", greatest(), made(t, image.Plates(greatest())-1), api.Full)
	none("a wrong title", c, wrong(n, false), api.Bad)
	none("a wrong title of more", c, wrong(n+1, false), api.Bad)
	for _, n := range []int{n, n + 1, 16384} {
		opened(t, c, made(t, n))
	}
	opened(t, greatest(), made(t, image.Plates(greatest())))
}

// begun: a pair that has been through some calls and two snapshots: both areas hold a state, the ring records from place 50 on.
func begun(t *testing.T) *pair {
	t.Helper()
	p := newPair(t, config())
	p.laySnapshot(1, bytesOf(t, state.Fresh(p.c)), 50, 300)
	p.opens(ok)
	p.does(login(), "t", ok)
	p.does(call(1, api.Create{}), "", ok)
	p.does(call(2, api.Insert{Text: "hello"}), "", ok)
	p.snapshot(true)
	p.does(call(3, api.Delete{At: 1, N: 2}), "", ok)
	p.snapshot(true)
	p.tick(3, true)
	p.does(call(4, api.Unmake{}), "", ok)
	p.does(call(5, api.View{N: 100}), "", ok)
	return p
}

// P18.1: what has one byte otherwise than a title that was laid: it is the model's, or none.
func TestP18_1EachByteOfATitle(t *testing.T) {
	p := begun(t)
	title, _ := p.d.Get(0)
	m, s := openModel(p.c, p.m.d)
	if m == nil || s != ok || len(m.records) != 3 || m.area != 1 || m.start != 58 || m.number != 304 {
		t.Fatal(m, s)
	}
	wells := 0
	for at := range 128 {
		for _, by := range []byte{1, 2, 0x10, 0x80, title[at]} {
			b := []byte(title)
			b[at] ^= by
			p.lay(0, string(b))
			m, want := openModel(p.c, p.m.d)
			i, got := image.Open(p.c, p.d)
			if got != want || (i != nil) != (want == ok) {
				t.Fatalf("byte %d by %d: %v, %d, not %d", at, by, i, got, want)
			}
			if want == ok {
				wells++
				if bytesOf(t, i.State()) != bytesOf(t, m.w.State()) {
					t.Fatalf("byte %d by %d: states are unlike", at, by)
				}
			}
			// The kind, and what is behind the three numbers, can't be otherwise.
			if want == ok && by != 0 && (at == 0 || at > 25) {
				t.Fatalf("byte %d by %d", at, by)
			}
		}
	}
	if wells < 10 {
		t.Error("too few are titles:", wells)
	}
}

// P18.1: titles that are none, and those that just are.
func TestP18_1Titles(t *testing.T) {
	c := config()
	s := bytesOf(t, state.Fresh(c))
	n := len(s)
	// That of another config, which is none of this one.
	other := config()
	other.Labels[1].Owner = 1
	foreign := bytesOf(t, state.Fresh(other))
	for name, x := range map[string]struct {
		title  string
		status int
	}{
		"nothing":              {"", ok},
		"the first area":       {titleOf(0, n, 0, 0), ok},
		"the second area":      {titleOf(1, n, 0, 0), api.Bad},
		"no area":              {titleOf(2, n, 0, 0), api.Bad},
		"no area at all":       {titleOf(255, n, 0, 0), api.Bad},
		"another kind":         {"t" + titleOf(0, n, 0, 0)[1:], api.Bad},
		"no kind":              {"\x00" + titleOf(0, n, 0, 0)[1:], api.Bad},
		"a kind alone":         {"T", api.Bad},
		"a byte at the end":    {titleOf(0, n, 0, 0)[:127] + "\x01", api.Bad},
		"a byte behind":        {titleOf(0, n, 0, 0)[:26] + "\x01", api.Bad},
		"a byte at the end of": {filled("")[:127] + "\x01", api.Bad},
		"no bytes":             {titleOf(0, 0, 0, 0), api.Bad},
		"a byte fewer":         {titleOf(0, n-1, 0, 0), api.Bad},
		"a byte more":          {titleOf(0, n+1, 0, 0), api.Bad},
		"all of the area":      {titleOf(0, 128*areaOf(c), 0, 0), api.Bad},
		"more than the area":   {titleOf(0, 128*areaOf(c)+1, 0, 0), api.Bad},
		"more than the disk":   {titleOf(0, 128*(61+2*areaOf(c))+1, 0, 0), api.Bad},
		"bytes below 0":        {titleOf(0, -1, 0, 0), api.Bad},
		"bytes far below 0":    {titleOf(0, math.MinInt, 0, 0), api.Bad},
		"bytes far above":      {titleOf(0, math.MaxInt, 0, 0), api.Bad},
		"bytes that wrap":      {titleOf(0, math.MaxInt-126, 0, 0), api.Bad},
		"the last place":       {titleOf(0, n, 59, 0), ok},
		"a place too far":      {titleOf(0, n, 60, 0), api.Bad},
		"a place below 0":      {titleOf(0, n, -1, 0), api.Bad},
		"a place far off":      {titleOf(0, n, math.MaxInt, 0), api.Bad},
		"the last number":      {titleOf(0, n, 0, 1<<40-1), ok},
		"no number":            {titleOf(0, n, 0, 1<<40), ok},
		"a number too far":     {titleOf(0, n, 0, 1<<40+1), api.Bad},
		"a number below 0":     {titleOf(0, n, 0, -1), api.Bad},
		"a number far below":   {titleOf(0, n, 0, math.MinInt), api.Bad},
	} {
		p := newPair(t, c)
		p.laySnapshot(1, foreign, 0, 0)
		p.laySnapshot(0, s, 0, 0)
		// Where a third area would be, in the ring, lies a state too.
		p.laySnapshot(2, s, 0, 0)
		p.lay(0, x.title)
		if i, got := image.Open(c, p.d); got != x.status || (i != nil) != (got == ok) {
			t.Errorf("%s: %v, %d, not %d", name, i, got, x.status)
		}
		p.opens(x.status)
	}
}

// P18.1: what the title tells must be a state that is right for the config, wherever it is.
func TestP18_1StateOf(t *testing.T) {
	for area := range 2 {
		for name, bend := range map[string]func(*api.State){
			"as it is":          func(s *api.State) {},
			"later":             func(s *api.State) { s.Now = 1 << 40 },
			"too late":          func(s *api.State) { s.Now = 1<<40 + 1 },
			"no mark":           func(s *api.State) { s.Mark = 0 },
			"a label less":      func(s *api.State) { s.Labels = s.Labels[:1] },
			"another's label":   func(s *api.State) { s.Labels[1].Owner = 1 },
			"readers":           func(s *api.State) { s.Labels[1].Readers = []int{0, 1} },
			"a stack less":      func(s *api.State) { s.Stacks = s.Stacks[:1] },
			"too many docs":     func(s *api.State) { s.Docs = make([]api.Doc, 3) },
			"a text not right":  func(s *api.State) { s.Docs, s.Next = []api.Doc{{Segs: []api.Seg{{Text: "\xff"}}}}, 1 },
			"a seat of nobody":  func(s *api.State) { s.Seats = []api.Seat{{Token: "t", User: 2}} },
			"a seat of another": func(s *api.State) { s.Seats = []api.Seat{{Token: "t", User: 1}} },
		} {
			p := newPair(t, config())
			s := state.Fresh(p.c)
			s.Labels = slices.Clone(s.Labels)
			bend(&s)
			want := api.Bad
			if state.Right(p.c, s) {
				want = ok
			}
			p.laySnapshot(area, bytesOf(t, s), 7, 9)
			if _, got := image.Open(p.c, p.d); got != want {
				t.Errorf("%s: %d, not %d", name, got, want)
			}
			p.opens(want)
		}
	}
}

// long: a right state of just so many bytes, by entries and a seat that no call would leave.
func long(t *testing.T, c api.Config, bytes int) string {
	t.Helper()
	s := state.Fresh(c)
	s.Seats = []api.Seat{{Token: "t", Answer: told(t, api.Answer{})}}
	for {
		left := bytes - len(bytesOf(t, s))
		if left < 400 {
			break
		}
		n := min((left-300)/8, 510)
		s.Audit = append(s.Audit, api.Entry{User: -1, Segs: make([]int, min(n, 255)), Labels: make([]int, max(n-255, 0))})
	}
	left := bytes - len(bytesOf(t, s))
	s.Seats[0].Answer = told(t, api.Answer{Token: strings.Repeat("x", left)})
	b := bytesOf(t, s)
	if len(b) != bytes || !state.Right(c, s) {
		t.Fatalf("%d bytes, not %d, right: %v", len(b), bytes, state.Right(c, s))
	}
	return b
}

// told: an answer's bytes.
func told(t *testing.T, a api.Answer) string {
	t.Helper()
	s, ok := words.Answer(a)
	if !ok {
		t.Fatal(a)
	}
	return s
}

// P18.1: a snapshot has as many bytes as its area holds at most, even where the plates behind it hold the rest.
func TestP18_1AsLongAsTheArea(t *testing.T) {
	c := config()
	holds := 128 * areaOf(c)
	for area := range 2 {
		for _, x := range []struct{ bytes, status int }{{state.Most(c), ok}, {holds - 1, ok}, {holds, ok}, {holds + 1, api.Bad}, {holds + 128, api.Bad}, {holds + 1000, api.Bad}} {
			p := newPair(t, c)
			s := long(t, c, x.bytes)
			p.laySnapshot(area, s, 20, 5)
			if _, got := image.Open(c, p.d); got != x.status {
				t.Errorf("%d bytes of %d: %d", x.bytes, holds, got)
			}
			p.opens(x.status)
			if x.status == ok {
				p.snapshot(true)
				p.opens(ok)
			}
		}
	}
}

// P18.1: a state that was laid by others and grows too long for an area: no snapshot is made, nothing else is laid on, and what was answered stays.
func TestP18_1TooLong(t *testing.T) {
	c := config()
	for area := range 2 {
		p := newPair(t, c)
		p.laySnapshot(area, long(t, c, 128*areaOf(c)-20), 59, 7)
		p.opens(ok)
		seq := 1
		for ; p.room() > 1; seq++ {
			p.does(call(seq, api.Create{Label: 9}), "", api.None)
		}
		for range 3 {
			p.refuses(call(seq, api.Create{Label: 9}), "", api.Full)
			p.tick(1, false)
			p.snapshot(false)
		}
		p.fall()
		p.refuses(call(seq, api.Create{Label: 9}), "", api.Full)
	}
}

// P18.1: a state that grows to just an area's bytes, or to one more.
func TestP18_1GrownToTheArea(t *testing.T) {
	c := config()
	for x := range 3 {
		p := newPair(t, c)
		// A login that is denied leaves an entry of 28 bytes, and nothing else.
		p.laySnapshot(x%2, long(t, c, 128*areaOf(c)-29+x), 0, 0)
		p.opens(ok)
		p.does(api.Call{Ask: api.Login{}}, "", api.Denied)
		p.snapshot(x < 2)
		p.opens(ok)
	}
}

// P18.1: records that are none, behind others or none; and odd ones that are.
func TestP18_1Records(t *testing.T) {
	asked, _ := words.Call(call(1, api.Create{}))
	for name, x := range map[string]struct {
		record string
		status int
	}{
		"a Tick":                {tickOf(3), ok},
		"a Tick of nothing":     {tickOf(0), ok},
		"a Tick back":           {tickOf(-3), ok},
		"a Tick for ever":       {tickOf(math.MaxInt), ok},
		"a Tick of no number":   {"t", api.Bad},
		"a Tick cut":            {tickOf(3)[:8], api.Bad},
		"a Tick and a byte":     {tickOf(3) + "\x00", api.Bad},
		"a call":                {"d\x00\x00" + asked, ok},
		"a call with a draw":    {"d\x00\x05draws" + asked, ok},
		"a call cut":            {"d\x00\x00" + asked[:len(asked)-1], api.Bad},
		"a call and a byte":     {"d\x00\x00" + asked + "\x00", api.Bad},
		"no call":               {"d\x00\x00", api.Bad},
		"a draw alone":          {"d\x00\x05draws", api.Bad},
		"a draw too long":       {"d\xff\xff" + asked, api.Bad},
		"a draw's length cut":   {"d\x00", api.Bad},
		"nothing behind the d":  {"d", api.Bad},
		"what asks nothing":     {"d\x00\x00\x00" + asked[1:], api.Bad},
		"what asks too much":    {"d\x00\x00\x10" + asked[1:], api.Bad},
		"another kind":          {"T" + tickOf(3)[1:], api.Bad},
		"a kind of 0":           {"\x00", api.Bad},
		"a call without a kind": {asked, api.Bad},
		"a bool that is none":   {"d\x00\x00\x0e" + asked[1:] + eight(0) + "\x02\x00", api.Bad},
		"a bool":                {"d\x00\x00\x0e" + asked[1:] + eight(0) + "\x01\x00", ok},
		"a call to no seat":     {callOf(api.Call{Token: "none", Ask: api.Logout{}}, ""), ok},
		"longer than Do's":      {"d" + two(5000) + strings.Repeat("x", 5000) + asked, ok},
	} {
		p := newPair(t, config())
		p.layRecord(0, 0, x.record)
		if _, got := image.Open(p.c, p.d); got != x.status {
			t.Errorf("%s: %d, not %d", name, got, x.status)
		}
		p.opens(x.status)
		// Round the ring, behind and ahead of others.
		p = newPair(t, config())
		p.laySnapshot(1, bytesOf(t, state.Fresh(p.c)), 55, 70)
		at := p.layRecord(55, 70, callOf(login(), "t"))
		at = p.layRecord(at, 71, callOf(call(1, api.Create{Label: 1}), ""))
		at = p.layRecord(at, 72, x.record)
		p.layRecord(at, 73, tickOf(3))
		p.opens(x.status)
	}
}

// P18.1: a call without bytes is Bad, and so is one whose record is too long, at both sides of that.
func TestP18_1Bad(t *testing.T) {
	p := newPair(t, config())
	p.does(login(), "t", ok)
	x := func(n int) string { return strings.Repeat("x", n) }
	// No step is left, and none is taken.
	p.limit(0)
	for _, ask := range []any{nil, 5, "Login", &api.Login{}, api.Call{}, api.Answer{}, struct{}{}, []int{1}} {
		p.refuses(api.Call{Token: "t", Seq: 1, Ask: ask}, "", api.Bad)
	}
	for _, n := range []int{65536, 70000, 1 << 20} {
		p.refuses(api.Call{Token: x(n), Ask: api.Logout{}}, "", api.Bad)
		p.refuses(api.Call{Ask: api.Login{User: x(n)}}, "", api.Bad)
		p.refuses(call(1, api.Insert{Text: x(n)}), "", api.Bad)
		p.refuses(login(), x(n), api.Bad)
	}
	// Of a record's bytes but for one text.
	for _, y := range []struct {
		beside int
		asks   func(s string) (api.Call, string)
		status int
	}{
		{3 + 1 + 3 + 8, func(s string) (api.Call, string) { return call(1, api.Logout{}), s }, ok},
		{3 + 1 + 2 + 8 + 4, func(s string) (api.Call, string) { return api.Call{Ask: api.Login{User: s}}, "" }, api.Denied},
		{3 + 1 + 2 + 8 + 7, func(s string) (api.Call, string) { return api.Call{Ask: api.Login{User: "ann", Password: s}}, "" }, api.Denied},
		{3 + 1 + 2 + 8, func(s string) (api.Call, string) { return api.Call{Token: s, Ask: api.Logout{}}, "" }, api.Token},
		{3 + 1 + 3 + 8 + 26, func(s string) (api.Call, string) { return call(1, api.Insert{Text: s}), "" }, api.None},
	} {
		for _, n := range []int{2001, 2002, 2040, 65535} {
			p.limit(0)
			c, draw := y.asks(x(n - y.beside))
			p.refuses(c, draw, api.Bad)
		}
		p.limit(-1)
		for _, n := range []int{1999, 2000} {
			c, draw := y.asks(x(n - y.beside))
			if len(callOf(c, draw)) != n {
				t.Fatal(n, len(callOf(c, draw)))
			}
			q := newPair(t, config())
			q.does(login(), "t", ok)
			q.does(c, draw, y.status)
			q.opens(ok)
		}
	}
	p.does(call(1, api.Logout{}), "", ok)
}

// P18.1, R1: Bad ahead of Down, Down ahead of Full.
func TestP18_1R1Do(t *testing.T) {
	p := newPair(t, config())
	p.laySnapshot(1, bytesOf(t, state.Fresh(p.c)), 3, 1<<40)
	p.opens(ok)
	p.refuses(login(), "t", api.Full)
	p.off()
	p.refuses(login(), "t", api.Down)
	p.tick(1, false)
	p.snapshot(false)
	p.refuses(api.Call{}, "", api.Bad)
	p.refuses(login(), strings.Repeat("x", 2000), api.Bad)
	p.fall()
	p.refuses(login(), "t", api.Full)
}

// P18.1: the last number of a record: behind it nothing finds room, and all that was done stays.
func TestP18_1LastNumber(t *testing.T) {
	p := newPair(t, config())
	p.laySnapshot(0, bytesOf(t, state.Fresh(p.c)), 57, 1<<40-3)
	p.opens(ok)
	p.tick(9, true)
	p.does(login(), "t", ok)
	p.does(call(1, api.Create{}), "", ok)
	for range 3 {
		p.refuses(call(2, api.Create{}), "", api.Full)
		p.tick(9, false)
		p.opens(ok)
	}
	if title, _ := p.d.Get(0); title[18:26] != eight(1<<40) {
		t.Errorf("%q", title)
	}
	p.snapshot(true)
	p.fall(1, 1, 1)
	if now := p.i.State(); now.Now != 9 || len(now.Docs) != 1 || len(now.Seats) != 1 {
		t.Error(now)
	}
}

// P18.1: Tick: what is below 0 is 0, and the time ends at 2^40.
func TestP18_1R6Tick(t *testing.T) {
	for _, a := range ends() {
		p := newPair(t, config())
		for _, b := range ends() {
			p.tick(a, true)
			p.tick(b, true)
		}
		p.opens(ok)
		if a == math.MinInt && p.i.State().Now != 1<<40 {
			t.Error(p.i.State().Now)
		}
	}
	p := newPair(t, config())
	p.tick(-9, true)
	if r := p.m.records; len(r) != 1 || r[0] != tickOf(0) {
		t.Errorf("%q", r)
	}
}

// record: a call to nobody's seat whose record takes so many plates, 2 to 17.
func record(plates int) (api.Call, string) {
	n := min(127*(plates-1), 2000)
	return api.Call{Token: "none", Ask: api.Logout{}}, strings.Repeat("x", n-(3+1+6+8))
}

// P18.1: each length of a record, at both sides of the room of the ring: where there is none, the ring begins anew behind a snapshot.
func TestP18_1Room(t *testing.T) {
	for k := 2; k <= 17; k++ {
		for left := range 20 {
			p := newPair(t, least())
			p.does(login(), "t", ok)
			for p.room() > left+3 {
				p.tick(1, true)
			}
			if n := p.room() - left; n > 1 {
				p.does(api.Call{Token: "none", Ask: api.Logout{}}, strings.Repeat("x", 127*(n-2)), api.Token)
			}
			if p.room() != left && p.room() != left+1 {
				t.Fatal(p.room(), left)
			}
			cut := p.room() < k
			c, draw := record(k)
			p.does(c, draw, api.Token)
			if title, _ := p.d.Get(0); (title[0] == 'T') != cut || cut && p.room() != 60-k {
				t.Fatalf("%d plates, room was %d: title %q, room %d", k, left, title, p.room())
			}
			p.opens(ok)
		}
	}
}

// P18.1: round and round: a great many calls, the most of which the world refuses; none finds no room.
func TestP18_1RoundTheRing(t *testing.T) {
	c := config()
	c.Ttl = 1000
	p := newPair(t, c)
	p.does(login(), "t", ok)
	p.does(call(1, api.Create{}), "", ok)
	for n := 2; n < 400; n++ {
		want := ok
		if len(p.m.w.State().Audit) == 100 {
			want = api.Full
		}
		p.does(call(n, api.View{From: n, N: n}), strings.Repeat("x", n*37%1900), want)
		p.tick(n%2, true)
		if n%50 == 0 {
			p.opens(ok)
		}
	}
}

// P18.1: a house with as much as calls can put there: every snapshot finds room, at each call.
func TestP18_1Brim(t *testing.T) {
	c := greatest()
	d := disk(t, c)
	m := opened(t, c, d)
	w, _ := acts.New(c)
	do := func(asked api.Call, draw string) {
		t.Helper()
		want, _ := w.Do(asked, draw)
		if got, done := m.Do(asked, draw); !alike(got, want) || !done {
			t.Fatalf("%+v: %+v, not %+v", asked, got, want)
		}
		if !m.Snapshot() {
			t.Fatal("Snapshot")
		}
	}
	for i, u := range c.Users {
		do(api.Call{Ask: api.Login{User: u.Name, Password: "p"}}, strings.Repeat(string(rune('a'+i)), 20))
	}
	for n := 1; n < 12; n++ {
		for i := range c.Users {
			asks := []any{
				api.Create{Label: i}, api.Insert{Doc: i, Seg: i, Text: strings.Repeat("€", 133)}, api.Insert{Doc: i, Seg: i, At: 50, Text: strings.Repeat("€", 133)},
				api.Delete{Doc: i, Seg: i, At: 9, N: 200}, api.Protect{Doc: i, Seg: i, At: 9, N: 9, Label: i + 1}, api.View{Doc: i, N: 200},
			}
			do(api.Call{Token: strings.Repeat(string(rune('a'+i)), 20), Seq: n, Ask: asks[min(n, len(asks))-1]}, "")
		}
	}
	d.Fall([]int{1, 1})
	if got := opened(t, c, d).State(); bytesOf(t, got) != bytesOf(t, w.State()) || len(got.Docs) != 8 || len(got.Audit) != 96 {
		t.Error(len(got.Docs), len(got.Audit))
	}
}

// P18.1: a disk of more plates has its ring, and its areas, where one of just enough has them.
func TestP18_1MorePlates(t *testing.T) {
	c := config()
	few, many := disk(t, c), made(t, image.Plates(c)+99)
	a, b := opened(t, c, few), opened(t, c, many)
	for n := range 80 {
		a.Tick(n)
		b.Tick(n)
	}
	for i := range many.Size() {
		want, _ := few.Get(i)
		if got, _ := many.Get(i); got != want && i < few.Size() || i >= few.Size() && got != filled("") {
			t.Fatalf("plate %d: %q, not %q", i, got, want)
		}
	}
	// What lies behind the last plate is none of the image's.
	for i := range 99 {
		many.Lay(few.Size()+i, "junk")
	}
	opened(t, c, many)
}

// P18.1: neither Open nor State takes a step, and none lays anything.
func TestP18_1OpenTakesNoStep(t *testing.T) {
	p := begun(t)
	p.limit(0)
	for range 5 {
		p.opens(ok)
		p.i.State()
	}
	if !p.d.On() || len(p.d.Loose()) != 0 {
		t.Error("a step was taken")
	}
}

// P18.1: all rows of five calls, of the smallest house but for its audit.
func TestP18_1AllShortRows(t *testing.T) {
	calls := []func(p *pair){
		func(p *pair) { p.do(login(), "t") },
		func(p *pair) {
			seq := 1
			for _, seat := range p.m.w.State().Seats {
				seq = seat.Seq + 1
			}
			p.do(call(seq, api.Create{}), "")
		},
		func(p *pair) { p.tickAny(2) }, func(p *pair) { p.snapshotAny() },
		func(p *pair) { p.limit(3) }, func(p *pair) { p.fall(1) }, func(p *pair) { p.fall(0, 1) },
	}
	c := least()
	c.Audit = 3
	n := 1
	for range 5 {
		n *= len(calls)
	}
	for row := range n {
		p := newPair(t, c)
		for x, k := row, 0; k < 5; x, k = x/len(calls), k+1 {
			calls[x%len(calls)](p)
		}
		p.fall()
	}
}

// P0, R2: of a nil image: {Down}, false, the zero state.
func TestP0Nil(t *testing.T) {
	var m *image.Image
	for _, c := range []api.Call{{}, login(), call(1, api.Create{}), {Ask: 5}} {
		for _, draw := range []string{"", "t", strings.Repeat("x", 3000)} {
			if a, done := m.Do(c, draw); !reflect.DeepEqual(a, api.Answer{Status: api.Down}) || done {
				t.Error(a, done)
			}
		}
	}
	for _, n := range ends() {
		if m.Tick(n) {
			t.Error(n)
		}
	}
	if m.Snapshot() || !reflect.DeepEqual(m.State(), api.State{}) {
		t.Error(m.State())
	}
}

// P0, R6: every call ends and none panics, with the ends of all numbers; also of an image that came about otherwise.
func TestP0AllArguments(t *testing.T) {
	p := newPair(t, config())
	p.does(login(), "t", ok)
	p.does(call(1, api.Create{}), "", ok)
	seq := 2
	for _, n := range ends() {
		for _, ask := range []any{
			api.Create{Label: n}, api.Insert{Doc: n, Text: "a"}, api.Insert{Seg: n, Text: "a"}, api.Insert{At: n, Text: "a"}, api.Delete{At: n, N: n},
			api.Protect{At: n, N: n, Label: 1}, api.Copy{At: n, N: n}, api.Fork{Doc: n}, api.Unmake{Doc: n}, api.View{From: n, N: n},
			api.Where{Offset: n}, api.Flat{At: n}, api.Grant{Label: n, User: n}, api.Log{From: n, N: n},
		} {
			p.do(call(seq, ask), "")
			seq++
		}
		p.do(call(n, api.Fork{}), "")
		p.do(api.Call{Token: "t", Seq: n}, "")
		p.opens(ok)
	}
	other := &image.Image{}
	other.Do(login(), "t")
	other.Do(api.Call{}, "")
	other.Tick(1)
	other.State()
	other.Snapshot()
}

// P0: what the plates hold may be anything: Open ends, and tells the model's status.
func TestP0AnyPlates(t *testing.T) {
	p := begun(t)
	ring := 1 + 2*areaOf(p.c)
	for i := range 60 {
		was, _ := p.d.Get(ring + i)
		for _, s := range []string{"", "H", "B", "T", strings.Repeat("\xff", 128), "H" + was[1:], "B" + was[1:], was[:20], was[:1] + "\x00" + was[2:]} {
			p.lay(ring+i, s)
			_, want := openModel(p.c, p.m.d)
			p.opens(want)
		}
		p.lay(ring+i, was)
	}
	for i := range areaOf(p.c) {
		was, _ := p.d.Get(1 + areaOf(p.c) + i)
		for at := i % 3; at < 128; at += 3 {
			b := []byte(was)
			b[at] ^= 1
			p.lay(1+areaOf(p.c)+i, string(b))
			_, want := openModel(p.c, p.m.d)
			p.opens(want)
		}
		p.lay(1+areaOf(p.c)+i, was)
		if i > 4 {
			break
		}
	}
	p.opens(ok)
}

// roomy: l with room behind it that isn't the image's to use.
func roomy(l []int) []int {
	return append(slices.Clone(l), 77, 78)[:len(l)]
}

// R4: the config that was handed in is neither changed nor kept.
func TestR4Config(t *testing.T) {
	c, want := config(), config()
	for i := range c.Labels {
		c.Labels[i].Readers, c.Labels[i].Writers = roomy(c.Labels[i].Readers), roomy(c.Labels[i].Writers)
	}
	d := disk(t, c)
	m := opened(t, c, d)
	w, _ := acts.New(want)
	do := func(asked api.Call, draw string) {
		t.Helper()
		a, _ := w.Do(asked, draw)
		if got, done := m.Do(asked, draw); !alike(got, a) || !done {
			t.Fatalf("%+v, not %+v", got, a)
		}
	}
	do(login(), "t")
	do(call(1, api.Grant{Label: 1, User: 1, On: true}), "")
	m.Snapshot()
	if !reflect.DeepEqual(c, want) || c.Labels[1].Readers[:3][1] != 77 {
		t.Fatalf("%+v", c)
	}
	c.Users[0], c.Users[1] = api.User{}, api.User{}
	for i := range c.Labels {
		l := c.Labels[i].Readers
		l = append(l[:0], 9, 9)
		c.Labels[i] = api.Label{Readers: l}
	}
	do(call(2, api.Create{Label: 1}), "")
	do(api.Call{Ask: api.Login{User: "bob", Password: "q"}}, "u")
	if bytesOf(t, m.State()) != bytesOf(t, w.State()) {
		t.Error("states are unlike")
	}
	if image.Plates(want) != d.Size() || !reflect.DeepEqual(want, config()) {
		t.Error("the config was changed")
	}
}

// R4: what is answered is new memory.
func TestR4Answers(t *testing.T) {
	p := begun(t)
	was := bytesOf(t, p.i.State())
	for range 2 {
		s := p.i.State()
		s.Labels[0].Readers[0], s.Labels[1].Owner = 1, 1
		s.Docs[0].Segs[0].Text = "x"
		s.Docs[0].Segs[0].Spans[0].Mark = 9
		s.Stacks[0][0] = api.Undo{}
		s.Seats[0].Token = "x"
		s.Audit[1].Labels[0] = 1
		s.Audit[0] = api.Entry{}
		if got := bytesOf(t, p.i.State()); got != was {
			t.Fatalf("%q, not %q", got, was)
		}
	}
	a := p.does(call(6, api.Log{N: 10}), "", ok)
	a.Entries[1].Labels[0] = 7
	a.Entries[0] = api.Entry{}
	p.same("an answer that was changed")
	p.does(call(6, api.Log{N: 10}), "", ok)
}

// R7: images of two disks have nothing to do with each other; the same calls do the same.
func TestR7(t *testing.T) {
	a, b := begun(t), begun(t)
	c := newPair(t, config())
	for n := 6; n < 30; n++ {
		x := a.does(call(n, api.View{N: n}), "x", ok)
		a.i.State()
		a.tick(1, true)
		y := b.does(call(n, api.View{N: n}), "x", ok)
		b.tick(1, true)
		if !alike(x, y) {
			t.Fatal(x, y)
		}
	}
	c.same("nothing")
	for i := range a.d.Size() {
		x, _ := a.d.Get(i)
		if y, _ := b.d.Get(i); x != y {
			t.Fatal(i)
		}
	}
}
