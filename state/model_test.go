package state_test

import (
	"bytes"
	"encoding/binary"
	"errors"
	"io"
	"math/rand"
	"reflect"
	"strings"
	"testing"

	"chancel/api"
	"chancel/rights"
	"chancel/salt"
	"chancel/segment"
	"chancel/state"
	"chancel/undo"
	"chancel/words"
)

// put writes v as bytes, as the chapter's words tell it; false, if there are none.
func put(b *bytes.Buffer, v reflect.Value) bool {
	switch v.Kind() {
	case reflect.Int:
		binary.Write(b, binary.BigEndian, v.Int())
	case reflect.Bool:
		binary.Write(b, binary.BigEndian, v.Bool())
	case reflect.String:
		binary.Write(b, binary.BigEndian, uint16(v.Len()))
		b.WriteString(v.String())
		return v.Len() <= 65535
	case reflect.Slice:
		binary.Write(b, binary.BigEndian, uint16(v.Len()))
		for i := range v.Len() {
			if v.Len() > 65535 || !put(b, v.Index(i)) {
				return false
			}
		}
		return v.Len() <= 65535
	case reflect.Struct:
		for i := range v.NumField() {
			if !put(b, v.Field(i)) {
				return false
			}
		}
	}
	return true
}

var errBytes = errors.New("no such bytes")

// take reads v from bytes, as the chapter's words tell it.
func take(b *bytes.Reader, v reflect.Value) error {
	switch v.Kind() {
	case reflect.Int:
		var n int64
		err := binary.Read(b, binary.BigEndian, &n)
		v.SetInt(n)
		return err
	case reflect.Bool:
		n, err := b.ReadByte()
		v.SetBool(n == 1)
		if n > 1 {
			return errBytes
		}
		return err
	case reflect.String:
		var n uint16
		if err := binary.Read(b, binary.BigEndian, &n); err != nil {
			return err
		}
		s := make([]byte, n)
		_, err := io.ReadFull(b, s)
		v.SetString(string(s))
		return err
	case reflect.Slice:
		var n uint16
		if err := binary.Read(b, binary.BigEndian, &n); err != nil {
			return err
		}
		for range n {
			x := reflect.New(v.Type().Elem()).Elem()
			if err := take(b, x); err != nil {
				return err
			}
			v.Set(reflect.Append(v, x))
		}
		return nil
	}
	for i := range v.NumField() {
		if err := take(b, v.Field(i)); err != nil {
			return err
		}
	}
	return nil
}

// modelWrite: as the chapter's words tell it; the fields of each type stand in api in the chapter's order.
func modelWrite(s api.State) (string, bool) {
	b := &bytes.Buffer{}
	if !put(b, reflect.ValueOf(s)) {
		return "", false
	}
	return b.String(), true
}

// modelRead: as the chapter's words tell it.
func modelRead(s string) (api.State, bool) {
	b := bytes.NewReader([]byte(s))
	var x api.State
	if take(b, reflect.ValueOf(&x).Elem()) != nil || b.Len() > 0 {
		return api.State{}, false
	}
	return x, true
}

// modelMay: what the chapter says of a config, one after the other.
func modelMay(c api.Config) bool {
	if !salt.Right(c.Users) || !rights.Right(c.Labels, len(c.Users)) {
		return false
	}
	for _, x := range []struct{ n, low, high int }{
		{c.Quota, 1, 1000}, {c.Segs, 1, 24}, {c.Docs, 1, 8}, {c.Depth, 1, 4}, {c.Seats, 1, 8}, {c.Audit, 1, 100}, {c.Ttl, 0, 1000000},
	} {
		if x.n < x.low || x.n > x.high {
			return false
		}
	}
	return true
}

// faults: what of the chapter's words doesn't hold of s, for a right config; none of a right state.
func faults(c api.Config, s api.State) []string {
	var l []string
	must := func(what string, holds bool) {
		if !holds {
			l = append(l, what)
		}
	}
	must("Now", s.Now >= 0 && s.Now <= 1<<40)
	must("Next", s.Next >= 0 && s.Next <= 1<<40)
	must("Mark", s.Mark >= 1 && s.Mark <= 1<<40)
	must("labels right", rights.Right(s.Labels, len(c.Users)))
	must("labels as many", len(s.Labels) == len(c.Labels))
	for i := range min(len(s.Labels), len(c.Labels)) {
		must("label's parent", s.Labels[i].Parent == c.Labels[i].Parent)
		must("label's owner", s.Labels[i].Owner == c.Labels[i].Owner)
	}
	docFaults(c, s, must)
	stackFaults(c, s, must)
	seatFaults(c, s, must)
	must("entries", len(s.Audit) <= c.Audit)
	for _, e := range s.Audit {
		must("entry's user", e.User == -1 || e.User >= 0 && e.User < len(c.Users))
		must("entry's op", e.Op >= 0 && e.Op <= 15)
		must("entry's status", e.Status >= 0 && e.Status <= 255)
		must("entry's segments", len(e.Segs) <= 255)
		must("entry's labels", len(e.Labels) <= 255)
	}
	return l
}

func docFaults(c api.Config, s api.State, must func(string, bool)) {
	must("docs", len(s.Docs) <= c.Docs)
	times := map[int]int{}
	for _, d := range s.Docs {
		for _, x := range d.Segs {
			times[x.Id]++
			must("segment's Id once", times[x.Id] == 1)
			_, ok := segment.Load(x)
			must("segment is loaded", ok)
			must("segment's text", len(x.Text) <= c.Quota)
			must("segment's label", x.Label >= 0 && x.Label < len(s.Labels))
			must("segment's Id", x.Id >= 0 && x.Id < s.Next)
			for _, p := range x.Spans {
				must("span's mark", p.Mark < s.Mark)
			}
			for _, p := range x.Sites {
				must("site's mark", p.Mark < s.Mark)
			}
		}
	}
	n := 0
	for _, k := range times {
		n += k
	}
	must("segments", n <= c.Segs)
}

func stackFaults(c api.Config, s api.State, must func(string, bool)) {
	must("stacks", len(s.Stacks) == len(c.Users))
	for _, k := range s.Stacks {
		must("things", len(k) <= c.Depth)
		for _, u := range k {
			_, ok := undo.Load([]api.Undo{u})
			must("thing is loaded", ok)
			must("thing's doc", u.Doc >= 0 && u.Doc < len(s.Docs))
			must("thing's label", u.Label >= 0 && u.Label < len(s.Labels))
			must("thing's mark", u.Mark > 0 && u.Mark < s.Mark)
			must("thing's text", len(u.Text) <= c.Quota)
		}
	}
}

func seatFaults(c api.Config, s api.State, must func(string, bool)) {
	must("seats", len(s.Seats) <= c.Seats)
	times := map[string]int{}
	for _, x := range s.Seats {
		times[x.Token]++
		must("seat's token once", times[x.Token] == 1)
		must("seat's token", len(x.Token) >= 1 && len(x.Token) <= 20)
		must("seat's user", x.User >= 0 && x.User < len(c.Users))
		must("seat's Used", x.Used >= 0 && x.Used <= s.Now)
		must("seat's Seq", x.Seq >= 0)
		_, told := words.Told(x.Answer)
		must("seat's answer", x.Answer == "" || told)
	}
}

// bare: v without lists that are empty, which may be nil or not.
func bare(v reflect.Value) {
	switch v.Kind() {
	case reflect.Slice:
		if v.Len() == 0 {
			v.SetZero()
		}
		for i := range v.Len() {
			bare(v.Index(i))
		}
	case reflect.Struct:
		for i := range v.NumField() {
			bare(v.Field(i))
		}
	}
}

// same: are a and b the same, but for lists that are empty?
func same(a, b api.State) bool {
	a, b = copied(a), copied(b)
	bare(reflect.ValueOf(&a).Elem())
	bare(reflect.ValueOf(&b).Elem())
	return reflect.DeepEqual(a, b)
}

// twin: v in memory of its own.
func twin(v reflect.Value) reflect.Value {
	c := reflect.New(v.Type()).Elem()
	c.Set(v)
	switch {
	case v.Kind() == reflect.Slice && !v.IsNil():
		c.Set(reflect.MakeSlice(v.Type(), v.Len(), v.Len()))
		for i := range v.Len() {
			c.Index(i).Set(twin(v.Index(i)))
		}
	case v.Kind() == reflect.Struct:
		for i := range v.NumField() {
			c.Field(i).Set(twin(v.Field(i)))
		}
	}
	return c
}

// copied: x in memory of its own.
func copied[T any](x T) T {
	return twin(reflect.ValueOf(x)).Interface().(T)
}

// places: each value within v, v itself too: numbers, texts, bools, lists, structs.
func places(v reflect.Value) []reflect.Value {
	l := []reflect.Value{v}
	switch v.Kind() {
	case reflect.Slice:
		for i := range v.Len() {
			l = append(l, places(v.Index(i))...)
		}
	case reflect.Struct:
		for i := range v.NumField() {
			l = append(l, places(v.Field(i))...)
		}
	}
	return l
}

// short: s for a message.
func short(s string) string {
	if len(s) <= 200 {
		return s
	}
	return s[:200] + ".."
}

// righted asks Right once, whether it answers as the model.
func righted(t *testing.T, c api.Config, s api.State) bool {
	t.Helper()
	got := state.Right(c, s)
	why := []string{"the config"}
	if modelMay(c) {
		why = faults(c, s)
	}
	if got != (len(why) == 0) {
		t.Fatalf("Right: %v, but what is wrong is %v: %+v, %+v", got, why, c, s)
	}
	return got
}

// written asks Write once, whether it answers as the model, and whether what is written is read again.
func written(t *testing.T, s api.State) (string, bool) {
	t.Helper()
	got, ok := state.Write(s)
	if want, well := modelWrite(s); got != want || ok != well {
		t.Fatalf("Write: %q of %d bytes, %v, not %q of %d bytes, %v", short(got), len(got), ok, short(want), len(want), well)
	}
	if !ok {
		return got, ok
	}
	if again, well := state.Read(got); !well || !same(again, s) {
		t.Fatalf("a state isn't read again: %q, %v", short(got), well)
	}
	return got, ok
}

// read asks Read once, whether it answers as the model, and whether what is read is written as just these bytes.
func read(t *testing.T, b string) (api.State, bool) {
	t.Helper()
	got, ok := state.Read(b)
	if want, well := modelRead(b); ok != well || !same(got, want) {
		t.Fatalf("Read(%q): %+v, %v, not %+v, %v", short(b), got, ok, want, well)
	}
	if !ok {
		if !reflect.DeepEqual(got, api.State{}) {
			t.Fatalf("Read(%q): %+v beside false", short(b), got)
		}
		return got, ok
	}
	if again, well := state.Write(got); again != b || !well {
		t.Fatalf("%q is written otherwise: %q, %v", short(b), short(again), well)
	}
	return got, ok
}

// drawnBytes: n bytes of any kind.
func drawnBytes(r *rand.Rand, n int) string {
	b := make([]byte, n)
	r.Read(b)
	return string(b)
}

// draw fills v with what is drawn, lists of up to most items.
func draw(r *rand.Rand, v reflect.Value, most int) {
	switch v.Kind() {
	case reflect.Int:
		v.SetInt(int64(r.Uint64()) >> r.Intn(64))
	case reflect.Bool:
		v.SetBool(r.Intn(2) == 1)
	case reflect.String:
		v.SetString(drawnBytes(r, r.Intn([]int{1, 5, 300}[r.Intn(3)])))
	case reflect.Slice:
		n := r.Intn(most + 1)
		v.Set(reflect.MakeSlice(v.Type(), n, n+r.Intn(3)))
		for i := range n {
			draw(r, v.Index(i), most)
		}
	case reflect.Struct:
		for i := range v.NumField() {
			draw(r, v.Field(i), most)
		}
	}
}

// drawnState: a state of any kind, most of them not right.
func drawnState(r *rand.Rand) api.State {
	var s api.State
	draw(r, reflect.ValueOf(&s).Elem(), r.Intn(5))
	return s
}

// spoilt: s with some of its bytes otherwise, over, or missing.
func spoilt(r *rand.Rand, s string) string {
	at := r.Intn(len(s))
	switch r.Intn(4) {
	case 0:
		return s[:at]
	case 1:
		return s[:at] + s[at+1:]
	case 2:
		return s[:at] + drawnBytes(r, 1+r.Intn(3)) + s[at:]
	}
	return s[:at] + string([]byte{byte(r.Intn(3))}) + s[at+1:]
}

// some: of the numbers 0 to n - 1 some, rising.
func some(r *rand.Rand, n int) []int {
	var l []int
	for i := range n {
		if r.Intn(2) == 0 {
			l = append(l, i)
		}
	}
	return l
}

// drawnConfig: a right config, of sizes that are small for the most part.
func drawnConfig(r *rand.Rand) api.Config {
	size := func(most int) int { return 1 + r.Intn([]int{1, min(3, most), most}[r.Intn(3)]) }
	c := api.Config{Quota: size(1000), Segs: size(24), Docs: size(8), Depth: size(4), Seats: size(8), Audit: size(100), Ttl: r.Intn(1000001)}
	for i := range size(8) {
		u := api.User{Name: string(rune('a' + i)), Salt: drawnBytes(r, r.Intn(21))}
		u.Seal = salt.Seal(u.Salt, "p")
		c.Users = append(c.Users, u)
	}
	for i := range size(12) {
		n := len(c.Users)
		c.Labels = append(c.Labels, api.Label{Parent: r.Intn(i+1) - 1, Owner: r.Intn(n), Readers: some(r, n), Writers: some(r, n)})
	}
	return c
}

// drawnText: a right text of up to most bytes.
func drawnText(r *rand.Rand, most int) string {
	b := &strings.Builder{}
	for range r.Intn(12) {
		l := []string{"a", "b", "ä", "€", "\x00", "\U0001F600"}[r.Intn(6)]
		if b.Len()+len(l) <= most {
			b.WriteString(l)
		}
	}
	return b.String()
}

// drawnSeg: a right segment, of marks below mark.
func drawnSeg(r *rand.Rand, c api.Config, id, mark int) api.Seg {
	x, _ := segment.Load(api.Seg{Id: id, Label: r.Intn(len(c.Labels)), Text: drawnText(r, c.Quota)})
	for range r.Intn(4) {
		if mark > 1 && r.Intn(2) == 0 {
			x, _ = x.Delete(r.Intn(9), r.Intn(3), 1+r.Intn(mark-1))
		} else if y, ok := segment.Load(api.Seg{Text: drawnText(r, c.Quota)}); ok && mark > 1 {
			x, _ = x.Insert(r.Intn(9), y.Rope(), 1+r.Intn(mark-1), c.Quota)
		}
	}
	return x.Plain()
}

// drawnThing: a right thing, of a mark below mark, which is above 1.
func drawnThing(r *rand.Rand, c api.Config, docs, mark int) api.Undo {
	u := api.Undo{Kind: 1 + r.Intn(2), Doc: r.Intn(docs), Mark: 1 + r.Intn(mark-1), Label: r.Intn(len(c.Labels))}
	if u.Kind == 2 {
		u.Text = drawnText(r, c.Quota)
	}
	return u
}

// drawnAnswer: "", or an answer's bytes.
func drawnAnswer(r *rand.Rand) string {
	var a api.Answer
	draw(r, reflect.ValueOf(&a).Elem(), r.Intn(3))
	a.Status = r.Intn(256)
	s, _ := words.Answer(a)
	return s[:len(s)*r.Intn(2)]
}

// drawnRight: a state that is right for c.
func drawnRight(r *rand.Rand, c api.Config) api.State {
	far := []int{5, 30, 1 << 40}
	s := api.State{Now: r.Intn(far[r.Intn(3)] + 1), Mark: 1 + r.Intn(far[r.Intn(3)]), Labels: copied(c.Labels)}
	for i := range s.Labels {
		s.Labels[i].Readers, s.Labels[i].Writers = some(r, len(c.Users)), some(r, len(c.Users))
	}
	left := r.Intn(c.Segs + 1)
	s.Next = left + r.Intn(3)
	ids := r.Perm(s.Next)
	for range r.Intn(c.Docs + 1) {
		d := api.Doc{Frozen: r.Intn(2) == 0}
		for range r.Intn(left + 1) {
			left--
			d.Segs = append(d.Segs, drawnSeg(r, c, ids[left], s.Mark))
		}
		s.Docs = append(s.Docs, d)
	}
	for range c.Users {
		var l []api.Undo
		for range r.Intn(c.Depth + 1) {
			if len(s.Docs) > 0 && s.Mark > 1 {
				l = append(l, drawnThing(r, c, len(s.Docs), s.Mark))
			}
		}
		s.Stacks = append(s.Stacks, l)
	}
	for i := range r.Intn(c.Seats + 1) {
		x := api.Seat{Token: string(rune('a'+i)) + drawnBytes(r, r.Intn(20)), User: r.Intn(len(c.Users)), Used: r.Intn(s.Now + 1), Seq: r.Int(), Answer: drawnAnswer(r)}
		s.Seats = append(s.Seats, x)
	}
	for range r.Intn(c.Audit + 1) {
		e := api.Entry{User: r.Intn(len(c.Users)+1) - 1, Op: r.Intn(16), Status: r.Intn(256), Segs: some(r, 5), Labels: some(r, 3)}
		s.Audit = append(s.Audit, e)
	}
	return s
}

// bend changes the value at one place of v a bit.
func bend(r *rand.Rand, v reflect.Value) {
	l := places(v)
	p := l[r.Intn(len(l))]
	switch p.Kind() {
	case reflect.Int:
		by := []int64{-1, 1, -p.Int(), -1 - p.Int(), int64(r.Intn(30)) - p.Int(), 1<<40 - p.Int(), 1<<40 + 1 - p.Int(), 1 << 62, -1 << 63}
		p.SetInt(p.Int() + by[r.Intn(len(by))])
	case reflect.Bool:
		p.SetBool(!p.Bool())
	case reflect.String:
		s := p.String()
		p.SetString([]string{"", s + "a", s + "\xff", s[:len(s)/2], s + strings.Repeat("b", 20), strings.Repeat("c", 1+r.Intn(1001)), "a"}[r.Intn(7)])
	case reflect.Slice:
		bendList(r, p)
	}
}

// bendList: one item less, or one twice, or two the other way round, or many of them.
func bendList(r *rand.Rand, p reflect.Value) {
	n := p.Len()
	if n == 0 {
		p.Set(reflect.Append(p, reflect.New(p.Type().Elem()).Elem()))
		return
	}
	i, j := r.Intn(n), r.Intn(n)
	switch r.Intn(4) {
	case 0:
		p.Set(reflect.AppendSlice(p.Slice3(0, i, i), p.Slice(i+1, n)))
	case 1:
		p.Set(reflect.Append(p, twin(p.Index(i))))
	case 2:
		x, y := twin(p.Index(i)), twin(p.Index(j))
		p.Index(i).Set(y)
		p.Index(j).Set(x)
	case 3:
		for range []int{2, 9, 260}[r.Intn(3)] {
			p.Set(reflect.Append(p, twin(p.Index(i))))
		}
	}
}
