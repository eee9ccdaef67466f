package state_test

import (
	"math"
	"math/rand"
	"reflect"
	"strings"
	"testing"

	"chancel/api"
	"chancel/state"
	"chancel/words"
)

// P14.1: a state written out.
func TestP14_1WrittenOut(t *testing.T) {
	n := func(l ...int) string {
		b := &strings.Builder{}
		for _, x := range l {
			for shift := 56; shift >= 0; shift -= 8 {
				b.WriteByte(byte(x >> shift))
			}
		}
		return b.String()
	}
	s := api.State{
		Now: 1, Next: -2, Mark: 0x0102030405060708,
		Labels: []api.Label{{Parent: -1, Owner: 2, Readers: []int{3, 4}, Writers: []int{5}}, {}},
		Docs: []api.Doc{
			{Frozen: true, Segs: []api.Seg{{Id: 6, Label: 7, Text: "€", Spans: []api.Span{{Mark: 8, From: 9, To: 10}}, Sites: []api.Site{{Mark: 11, At: 12}, {Mark: 13, At: 14}}}, {Id: 15}}},
			{},
		},
		Stacks: [][]api.Undo{{{Kind: 1, Doc: 16, Mark: 17, Label: 18}, {Kind: 2, Text: "\xff"}}, nil, {{Kind: 3}}},
		Seats:  []api.Seat{{Token: "to", User: 19, Used: 20, Seq: 21, Answer: "ans"}},
		Audit:  []api.Entry{{User: 22, Op: 23, Status: 300, Segs: []int{24, 25}, Labels: []int{26}}, {User: -1}},
	}
	want := n(1, -2, 0x0102030405060708) +
		"\x00\x02" + n(-1, 2) + "\x00\x02" + n(3, 4) + "\x00\x01" + n(5) + n(0, 0) + "\x00\x00\x00\x00" +
		"\x00\x02" + "\x01\x00\x02" + n(6, 7) + "\x00\x03\xe2\x82\xac" + "\x00\x01" + n(8, 9, 10) + "\x00\x02" + n(11, 12, 13, 14) + n(15, 0) + "\x00\x00\x00\x00\x00\x00" + "\x00\x00\x00" +
		"\x00\x03" + "\x00\x02" + n(1, 16, 17, 18) + "\x00\x00" + n(2, 0, 0, 0) + "\x00\x01\xff" + "\x00\x00" + "\x00\x01" + n(3, 0, 0, 0) + "\x00\x00" +
		"\x00\x01" + "\x00\x02to" + n(19, 20, 21) + "\x00\x03ans" +
		"\x00\x02" + n(22, 23, 300) + "\x00\x02" + n(24, 25) + "\x00\x01" + n(26) + n(-1, 0, 0) + "\x00\x00\x00\x00"
	if got, ok := written(t, s); got != want || !ok {
		t.Errorf("%q, %v, not %q", got, ok, want)
	}
	if got, ok := read(t, want); !same(got, s) || !ok {
		t.Errorf("%+v, %v", got, ok)
	}
	if got, ok := written(t, api.State{}); got != strings.Repeat("\x00", 34) || !ok {
		t.Errorf("%q, %v", got, ok)
	}
}

// P14.1: what is written need not be right: any numbers, texts and lists.
func TestP14_1Drawn(t *testing.T) {
	r := rand.New(rand.NewSource(5))
	times := map[bool]int{}
	for range 2000 {
		b, ok := written(t, drawnState(r))
		if !ok {
			t.Fatal("a state isn't written")
		}
		read(t, b)
		_, ok = read(t, spoilt(r, b))
		times[ok]++
		c := drawnConfig(r)
		b, _ = written(t, drawnRight(r, c))
		s, ok := read(t, b)
		if !ok || !state.Right(c, s) {
			t.Fatal("a right state isn't right behind it")
		}
		read(t, spoilt(r, b))
	}
	if times[true] < 100 || times[false] < 100 {
		t.Error("too few of a kind:", times)
	}
}

// P14.1, R6: any number, in each place of one.
func TestP14_1AnyNumber(t *testing.T) {
	for _, n := range []int{math.MinInt, math.MinInt + 1, -1 << 40, -256, -1, 0, 1, 255, 256, 65535, 65536, 1<<40 - 1, 1 << 40, 1<<40 + 1, math.MaxInt - 1, math.MaxInt} {
		for i := range places(reflect.ValueOf(full())) {
			s := full()
			p := places(reflect.ValueOf(&s).Elem())[i]
			if p.Kind() != reflect.Int {
				continue
			}
			p.SetInt(int64(n))
			if _, ok := written(t, s); !ok {
				t.Error(n, i)
			}
			righted(t, config(), s)
		}
	}
	for i := range places(reflect.ValueOf(config())) {
		for _, n := range []int{math.MinInt, -1, 0, 1, 1 << 32, math.MaxInt} {
			c := config()
			p := places(reflect.ValueOf(&c).Elem())[i]
			if p.Kind() != reflect.Int {
				continue
			}
			p.SetInt(int64(n))
			righted(t, c, full())
			state.Fresh(c)
			state.Most(c)
			if state.May(c) != modelMay(c) {
				t.Errorf("%+v", c)
			}
		}
	}
}

// P14.1: a text has up to 65535 bytes, and a list as many items, wherever it stands; also one beyond that by 65536.
func TestP14_1EachLength(t *testing.T) {
	long := drawnBytes(rand.New(rand.NewSource(6)), 2*65536)
	for i := range places(reflect.ValueOf(full())) {
		for _, n := range []int{0, 1, 255, 256, 257, 65535, 65536, 65537, 2 * 65536} {
			s := full()
			p := places(reflect.ValueOf(&s).Elem())[i]
			switch p.Kind() {
			case reflect.String:
				p.SetString(long[:n])
			case reflect.Slice:
				p.Set(reflect.MakeSlice(p.Type(), n, n))
			default:
				continue
			}
			b, ok := state.Write(s)
			if ok != (n <= 65535) || (b == "") == ok {
				t.Errorf("place %d, %d: %v, %d bytes", i, n, ok, len(b))
			}
			if again, well := state.Read(b); well != ok || ok && !same(again, s) {
				t.Errorf("place %d, %d: not read again", i, n)
			}
			righted(t, config(), s)
		}
	}
}

// P14.1: a list that is empty is written alike, be it nil or not.
func TestP14_1EmptyLists(t *testing.T) {
	one := api.State{Labels: make([]api.Label, 1), Docs: []api.Doc{{Segs: make([]api.Seg, 1)}, {}}, Stacks: make([][]api.Undo, 1), Audit: make([]api.Entry, 1)}
	other := api.State{
		Labels: []api.Label{{Readers: []int{}, Writers: make([]int, 0, 9)}}, Docs: []api.Doc{{Segs: []api.Seg{{Spans: []api.Span{}, Sites: []api.Site{}}}}, {Segs: []api.Seg{}}},
		Stacks: [][]api.Undo{{}}, Seats: []api.Seat{}, Audit: []api.Entry{{Segs: []int{}, Labels: make([]int, 0, 9)}},
	}
	a, _ := written(t, one)
	if b, ok := written(t, other); b != a || !ok {
		t.Errorf("%q, not %q", b, a)
	}
}

// P14.1: where bytes are missing or over, there is nothing.
func TestP14_1CutAndOver(t *testing.T) {
	r := rand.New(rand.NewSource(7))
	for k := range 30 {
		s := full()
		if k > 0 {
			s = drawnState(r)
		}
		b, _ := written(t, s)
		for i := range len(b) {
			if i > 600 && i < len(b)-600 && i%37 != 0 {
				continue
			}
			if x, ok := state.Read(b[:i]); ok || !reflect.DeepEqual(x, api.State{}) {
				t.Errorf("%d bytes of %d", i, len(b))
			}
		}
		for _, x := range []string{b + "\x00", b + "\x01", b + "\xff", b + b} {
			if x, ok := state.Read(x); ok || !reflect.DeepEqual(x, api.State{}) {
				t.Errorf("bytes over: %+v", x)
			}
		}
	}
}

// P14.1: each byte of a state is made some others; a bool is read of a byte 0 or 1 alone.
func TestP14_1EachByteOtherwise(t *testing.T) {
	s := full()
	b, _ := written(t, s)
	times := map[bool]int{}
	for i := range len(b) {
		for _, x := range []byte{0, 1, 2, 127, 128, 255, b[i] - 1, b[i] + 1} {
			_, ok := read(t, b[:i]+string([]byte{x})+b[i+1:])
			times[ok]++
		}
	}
	if times[true] < 1000 || times[false] < 300 {
		t.Error(times)
	}
	b, _ = written(t, api.State{Docs: make([]api.Doc, 1)})
	for x := range 256 {
		frozen := b[:28] + string([]byte{byte(x)}) + b[29:]
		if s, ok := read(t, frozen); ok != (x < 2) || ok && s.Docs[0].Frozen != (x == 1) {
			t.Error(x, s, ok)
		}
	}
}

// P14.1: no two places of a state are written alike.
func TestP14_1NoneAlike(t *testing.T) {
	seen := map[string]int{}
	for i := range places(reflect.ValueOf(full())) {
		s := full()
		p := places(reflect.ValueOf(&s).Elem())[i]
		switch p.Kind() {
		case reflect.Int:
			p.SetInt(77)
		case reflect.String:
			p.SetString("77")
		case reflect.Bool:
			p.SetBool(!p.Bool())
		default:
			continue
		}
		b, _ := written(t, s)
		if j, ok := seen[b]; ok {
			t.Errorf("places %d and %d: %q", i, j, b)
		}
		seen[b] = i
	}
}

// R4: lists that are answered are new memory, no two of one answer the same.
func TestR4ListsAreNew(t *testing.T) {
	b, _ := state.Write(full())
	for range 2 {
		s, _ := state.Read(b)
		if !same(s, full()) {
			t.Fatalf("%+v", s)
		}
		l := places(reflect.ValueOf(&s).Elem())
		for _, p := range l {
			if p.Kind() == reflect.Slice {
				p.Set(reflect.Append(p, reflect.New(p.Type().Elem()).Elem()).Slice(0, p.Len()))
			}
		}
		if !same(s, full()) {
			t.Fatalf("behind items more: %+v", s)
		}
		for i, p := range l {
			if p.Kind() != reflect.Int {
				continue
			}
			before := p.Int()
			p.SetInt(-5)
			n := 0
			for _, q := range l {
				if q.Kind() == reflect.Int && q.Int() == -5 {
					n++
				}
			}
			if n != 1 {
				t.Fatalf("place %d is shared", i)
			}
			p.SetInt(before)
		}
	}
}

// modelMost: the chapter's sum, for so many users and labels.
func modelMost(c api.Config, u, l int) int {
	n := 200
	n += l * (20 + 16*u)
	n += c.Docs * 3
	n += c.Segs * (22 + 25*c.Quota + 16*u*c.Depth)
	n += u * (2 + c.Depth*(34+c.Quota))
	n += c.Seats * (2500 + 20)
	n += c.Audit * (70 + 8*c.Segs)
	return n
}

// P14.1: Most is the chapter's sum, of the smallest and the greatest config too.
func TestP14_1Most(t *testing.T) {
	small := api.Config{Users: config().Users[:1], Labels: config().Labels[:1], Quota: 1, Segs: 1, Docs: 1, Depth: 1, Seats: 1, Audit: 1}
	if n := state.Most(small); n != 200+36+3+(22+25+16)+(2+35)+2520+78 {
		t.Error(n)
	}
	great := greatest()
	if n := state.Most(great); n != 200+12*148+24+24*(22+25000+512)+8*(2+4*1034)+8*2520+100*(70+192) || !state.May(great) {
		t.Error(n)
	}
	r := rand.New(rand.NewSource(8))
	for range 500 {
		c := drawnConfig(r)
		if n := state.Most(c); n != modelMost(c, len(c.Users), len(c.Labels)) {
			t.Errorf("%d: %+v", n, c)
		}
	}
}

// greatest: the config that is right and has all of the most.
func greatest() api.Config {
	c := api.Config{Quota: 1000, Segs: 24, Docs: 8, Depth: 4, Seats: 8, Audit: 100, Ttl: 1000000}
	all := []int{0, 1, 2, 3, 4, 5, 6, 7}
	for i := range all {
		c.Users = append(c.Users, api.User{Name: strings.Repeat("n", 19) + string(rune('a'+i)), Salt: strings.Repeat("s", 20), Seal: config().Users[0].Seal})
	}
	for range 12 {
		c.Labels = append(c.Labels, api.Label{Parent: -1, Readers: all, Writers: all})
	}
	return c
}

// P14.1: a house that is full to the brim fits into Most, and its bytes are read again: each letter under a span of its own, a site of each thing in each segment.
func TestP14_1Brim(t *testing.T) {
	c := greatest()
	s := state.Fresh(c)
	s.Now, s.Next, s.Mark = 1<<40, 1<<40, 1<<40
	s.Docs = make([]api.Doc, 8)
	var x api.Seg
	for i := range 1000 {
		x.Text += "a"
		x.Spans = append(x.Spans, api.Span{Mark: 1 + i%2, From: i, To: i + 1})
	}
	for i := range 8 * 4 {
		x.Sites = append(x.Sites, api.Site{Mark: 1 + i, At: 7})
	}
	for i := range 24 {
		x.Id = i
		s.Docs[7].Segs = append(s.Docs[7].Segs, x)
	}
	answer, _ := words.Answer(api.Answer{Entries: make([]api.Entry, 94)})
	for i := range 8 {
		for range 4 {
			s.Stacks[i] = append(s.Stacks[i], api.Undo{Kind: 2, Mark: 1, Text: x.Text})
		}
		s.Seats = append(s.Seats, api.Seat{Token: strings.Repeat("t", 19) + string(rune('a'+i)), Seq: math.MaxInt, Answer: answer})
	}
	for range 100 {
		s.Audit = append(s.Audit, api.Entry{User: 7, Op: 15, Status: 255, Segs: make([]int, 24), Labels: make([]int, 2)})
	}
	b, ok := written(t, s)
	if !ok || !righted(t, c, s) || len(b) > state.Most(c) {
		t.Error(ok, len(b), state.Most(c))
	}
}

// P0: no call panics, at any bytes and values.
func TestP0AllArguments(t *testing.T) {
	r := rand.New(rand.NewSource(9))
	for range 20000 {
		read(t, drawnBytes(r, r.Intn(90)))
		read(t, strings.Repeat("\x00", 24+r.Intn(10))+drawnBytes(r, r.Intn(30)))
	}
	for range 2000 {
		var c api.Config
		draw(r, reflect.ValueOf(&c).Elem(), 4)
		if state.May(c) != modelMay(c) {
			t.Fatalf("%+v", c)
		}
		state.Fresh(c)
		state.Most(c)
		righted(t, c, drawnState(r))
		righted(t, drawnConfig(r), drawnState(r))
	}
}

// P0: very long bytes, and very long lists, which aren't gone through once they are too long.
func TestP0VeryMany(t *testing.T) {
	big := strings.Repeat("\xff", 1<<26)
	zeros := strings.Repeat("\x00", 1<<26)
	for _, b := range []string{big, zeros, zeros[:24] + big, zeros[:28] + big} {
		if s, ok := state.Read(b); ok || !reflect.DeepEqual(s, api.State{}) {
			t.Error("Read", ok)
		}
	}
	segs := make([]api.Seg, 1<<20)
	docs := make([]api.Doc, 1<<20)
	stacks := make([][]api.Undo, 1<<20)
	things := make([]api.Undo, 1<<20)
	numbers := make([]int, 1<<20)
	for i := range docs {
		segs[i] = api.Seg{Id: i, Text: big}
		docs[i].Segs = segs
		stacks[i] = things
	}
	for i, do := range []func(*api.State){
		func(s *api.State) { s.Labels = append(s.Labels, make([]api.Label, 1<<20)...) },
		func(s *api.State) { s.Labels[2].Readers = numbers },
		func(s *api.State) { s.Docs = docs },
		func(s *api.State) { s.Docs = docs[:3] },
		func(s *api.State) { s.Docs[1].Segs = segs },
		func(s *api.State) { s.Docs[1].Segs = segs[1:3] },
		func(s *api.State) { s.Docs[0].Segs[0].Spans = make([]api.Span, 1<<20) },
		func(s *api.State) { s.Docs[0].Segs[0].Sites = make([]api.Site, 1<<20) },
		func(s *api.State) { s.Stacks = stacks },
		func(s *api.State) { s.Stacks = stacks[:3] },
		func(s *api.State) { s.Seats[1].Token = big },
		func(s *api.State) { s.Seats[1].Answer = big },
		func(s *api.State) { s.Seats[1].Answer = zeros },
		func(s *api.State) { s.Seats = make([]api.Seat, 1<<20) },
		func(s *api.State) { s.Audit = make([]api.Entry, 1<<20) },
		func(s *api.State) { s.Audit[1].Segs = numbers },
	} {
		s := full()
		do(&s)
		if b, ok := state.Write(s); b != "" || ok {
			t.Error("Write", i, ok)
		}
		if state.Right(config(), s) {
			t.Error("Right", i)
		}
	}
}
