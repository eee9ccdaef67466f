package words_test

import (
	"errors"
	"math"
	"math/rand"
	"reflect"
	"strings"
	"testing"

	"chancel/api"
	"chancel/words"
)

// P13.1: the example of the chapter.
func TestP13_1Examples(t *testing.T) {
	want := "\x02\x00\x01t\x00\x00\x00\x00\x00\x00\x00\x01"
	c := api.Call{Token: "t", Seq: 1, Ask: api.Logout{}}
	if s, ok := words.Call(c); s != want || !ok {
		t.Errorf("%q, %v", s, ok)
	}
	if d, ok := words.Ask(want); d != c || !ok {
		t.Errorf("%v, %v", d, ok)
	}
}

// P13.1: each of what may be asked, written out.
func TestP13_1CallsWrittenOut(t *testing.T) {
	const head = " 00 02 74 6f ff ff ff ff ff ff ff fe "
	for _, x := range []struct {
		ask  any
		want string
	}{
		{api.Login{User: "ann", Password: ""}, "01" + head + "00 03 61 6e 6e 00 00"},
		{api.Login{User: "", Password: "p\xff"}, "01" + head + "00 00 00 02 70 ff"},
		{api.Logout{}, "02" + head},
		{api.Create{Label: 3}, "03" + head + "00 00 00 00 00 00 00 03"},
		{api.Insert{Doc: 1, Seg: 256, At: -1, Text: "€"}, "04" + head + "00 00 00 00 00 00 00 01 00 00 00 00 00 00 01 00 ff ff ff ff ff ff ff ff 00 03 e2 82 ac"},
		{api.Delete{Doc: 1, Seg: 2, At: 3, N: 4}, "05" + head + "00 00 00 00 00 00 00 01 00 00 00 00 00 00 00 02 00 00 00 00 00 00 00 03 00 00 00 00 00 00 00 04"},
		{api.Protect{Doc: 1, Seg: 2, At: 3, N: 4, Label: 5}, "06" + head + "00 00 00 00 00 00 00 01 00 00 00 00 00 00 00 02 00 00 00 00 00 00 00 03 00 00 00 00 00 00 00 04 00 00 00 00 00 00 00 05"},
		{api.Copy{Doc: 1, Seg: 2, At: 3, N: 4, ToDoc: 5, After: 6}, "07" + head + "00 00 00 00 00 00 00 01 00 00 00 00 00 00 00 02 00 00 00 00 00 00 00 03 00 00 00 00 00 00 00 04 00 00 00 00 00 00 00 05 00 00 00 00 00 00 00 06"},
		{api.Fork{Doc: 7}, "08" + head + "00 00 00 00 00 00 00 07"},
		{api.Snap{Doc: 7}, "09" + head + "00 00 00 00 00 00 00 07"},
		{api.Unmake{Doc: 7}, "0a" + head + "00 00 00 00 00 00 00 07"},
		{api.View{Doc: 1, From: 2, N: 3}, "0b" + head + "00 00 00 00 00 00 00 01 00 00 00 00 00 00 00 02 00 00 00 00 00 00 00 03"},
		{api.Where{Doc: 1, Offset: 2}, "0c" + head + "00 00 00 00 00 00 00 01 00 00 00 00 00 00 00 02"},
		{api.Flat{Doc: 1, Seg: 2, At: 3}, "0d" + head + "00 00 00 00 00 00 00 01 00 00 00 00 00 00 00 02 00 00 00 00 00 00 00 03"},
		{api.Grant{Label: 1, User: 2, Write: true}, "0e" + head + "00 00 00 00 00 00 00 01 00 00 00 00 00 00 00 02 01 00"},
		{api.Grant{Label: 1, User: 2, On: true}, "0e" + head + "00 00 00 00 00 00 00 01 00 00 00 00 00 00 00 02 00 01"},
		{api.Log{From: 1, N: math.MinInt}, "0f" + head + "00 00 00 00 00 00 00 01 80 00 00 00 00 00 00 00"},
	} {
		c := api.Call{Token: "to", Seq: -2, Ask: x.ask}
		want := hexed(t, x.want)
		if s, ok := called(t, c); s != want || !ok {
			t.Errorf("%T: %q, %v, not %q", x.ask, s, ok, want)
		}
		if d, ok := asked(t, want); d != c || !ok {
			t.Errorf("%T: %v, %v", x.ask, d, ok)
		}
	}
}

// P13.1: answers, written out.
func TestP13_1AnswersWrittenOut(t *testing.T) {
	for _, x := range []struct {
		a    api.Answer
		want string
	}{
		{api.Answer{}, "00 00 00 00 00 00 00 00 00 00 00 00 00 00 00 00 00 00 00 00 00"},
		{api.Answer{Status: 255, Token: "t", Num: -1, At: 513}, "ff 00 01 74 ff ff ff ff ff ff ff ff 00 00 00 00 00 00 02 01 00 00"},
		{
			api.Answer{Status: 1, Num: 2, Runs: []api.Run{{Id: 3, Label: 4, Open: true, Text: "ab"}, {Id: 5, Label: -1}}},
			"01 00 00 00 00 00 00 00 00 00 02 00 00 00 00 00 00 00 00 02" +
				" 00 00 00 00 00 00 00 03 00 00 00 00 00 00 00 04 01 00 02 61 62" +
				" 00 00 00 00 00 00 00 05 ff ff ff ff ff ff ff ff 00 00 00 00",
		},
		{
			api.Answer{Entries: []api.Entry{{User: -1, Op: 2, Status: 300, Segs: []int{7, 8}, Labels: []int{9}}, {User: 1}}},
			"00 00 00 00 00 00 00 00 00 00 00 00 00 00 00 00 00 00 00 00 02" +
				" ff ff ff ff ff ff ff ff 00 00 00 00 00 00 00 02 00 00 00 00 00 00 01 2c" +
				" 02 00 00 00 00 00 00 00 07 00 00 00 00 00 00 00 08 01 00 00 00 00 00 00 00 09" +
				" 00 00 00 00 00 00 00 01 00 00 00 00 00 00 00 00 00 00 00 00 00 00 00 00 00 00",
		},
	} {
		want := hexed(t, x.want)
		if s, ok := answered(t, x.a); s != want || !ok {
			t.Errorf("%v: %q, %v, not %q", x.a, s, ok, want)
		}
		if a, ok := told(t, want); !reflect.DeepEqual(bare(a), x.a) || !ok {
			t.Errorf("%v: %v, %v", x.a, a, ok)
		}
	}
}

// P13.1: each type has the byte of the table.
func TestP13_1OpOfEachType(t *testing.T) {
	for want, ask := range map[int]any{
		1: api.Login{User: "u"}, 2: api.Logout{}, 3: api.Create{Label: 9}, 4: api.Insert{Text: "x"}, 5: api.Delete{Doc: -1}, 6: api.Protect{},
		7: api.Copy{}, 8: api.Fork{Doc: 9}, 9: api.Snap{Doc: 9}, 10: api.Unmake{Doc: 9}, 11: api.View{}, 12: api.Where{}, 13: api.Flat{},
		14: api.Grant{On: true}, 15: api.Log{From: 1},
	} {
		if got := words.Op(ask); got != want || modelOp(ask) != want {
			t.Errorf("%T: %d, not %d", ask, got, want)
		}
	}
}

// P13.1: what is none of these types has no byte, and a call of it none either.
func TestP13_1OpOfNone(t *testing.T) {
	type mine api.Fork
	type within struct{ api.Fork }
	var nowhere *api.Logout
	var nothing error
	l := []any{
		nil, 0, 1, 15, "", "Login", true, 1.5, byte(2), 'x', struct{}{}, struct{ Doc int }{1}, mine{1}, within{}, nowhere, nothing, errors.New("x"),
		[]any{api.Logout{}}, [1]api.Logout{}, []int{1}, map[string]int{}, func() {}, make(chan int), any(nil), reflect.ValueOf(api.Logout{}),
		api.Call{Ask: api.Logout{}}, &api.Call{}, api.Answer{}, api.Entry{}, api.Run{}, api.Undo{}, api.Move{}, api.State{}, api.Config{},
	}
	for _, ask := range asks()[1:] {
		p := reflect.New(reflect.TypeOf(ask))
		pp := reflect.New(p.Type())
		pp.Elem().Set(p)
		l = append(l, p.Interface(), pp.Interface(), reflect.Zero(p.Type()).Interface(), reflect.TypeOf(ask))
	}
	for _, ask := range l {
		if op := words.Op(ask); op != 0 {
			t.Errorf("%T: %d", ask, op)
		}
		if s, ok := words.Call(api.Call{Token: "t", Seq: 1, Ask: ask}); s != "" || ok {
			t.Errorf("%T: %q, %v", ask, s, ok)
		}
	}
}

// P13.1: no byte but 1 to 15 stands for what is asked.
func TestP13_1AskOfEachOp(t *testing.T) {
	for op := range 256 {
		n := 0
		for length := range 80 {
			if c, ok := asked(t, string([]byte{byte(op)})+strings.Repeat("\x00", length)); ok {
				if words.Op(c.Ask) != op {
					t.Errorf("%d: %T", op, c.Ask)
				}
				n++
			}
		}
		if well := op >= 1 && op <= 15; (n == 1) != well || (n == 0) == well {
			t.Errorf("%d: %d lengths", op, n)
		}
	}
}

// P13.1, R6: any number, in each place of one.
func TestP13_1AnyNumber(t *testing.T) {
	for _, n := range numbers() {
		for _, ask := range asks()[1:] {
			called(t, api.Call{Seq: n, Ask: ask})
			for i := range reflect.TypeOf(ask).NumField() {
				v := reflect.New(reflect.TypeOf(ask)).Elem()
				v.Set(reflect.ValueOf(ask))
				if v.Field(i).Kind() == reflect.Int {
					v.Field(i).SetInt(int64(n))
				}
				if _, ok := called(t, api.Call{Seq: 1, Ask: v.Interface()}); !ok {
					t.Errorf("%T, %d", ask, n)
				}
			}
		}
		for _, a := range []api.Answer{
			{Num: n}, {At: n}, {Runs: []api.Run{{Id: n}, {Label: n}}}, {Entries: []api.Entry{{User: n}, {Op: n}, {Status: n}}},
			{Entries: []api.Entry{{Segs: []int{n, n, 1}}, {Labels: []int{1, n, n}}}},
		} {
			if _, ok := answered(t, a); !ok {
				t.Errorf("%v", a)
			}
		}
	}
}

// P13.1: a text has up to 65535 bytes, wherever it stands.
func TestP13_1TextOfEachLength(t *testing.T) {
	long := drawnBytes(rand.New(rand.NewSource(1)), 2*65536+3)
	for _, n := range []int{0, 1, 2, 127, 128, 254, 255, 256, 257, 400, 600, 32767, 32768, 65280, 65534, 65535, 65536, 65537, 65792, 2 * 65536, 2*65536 + 3} {
		for _, c := range []api.Call{
			{Token: long[:n], Ask: api.Logout{}}, {Token: long[:n], Ask: api.Insert{Text: "x"}}, {Ask: api.Login{User: long[:n]}},
			{Ask: api.Login{User: "u", Password: long[:n]}}, {Seq: 1, Ask: api.Insert{At: 2, Text: long[:n]}},
		} {
			if s, ok := called(t, c); ok != (n <= 65535) || (s == "") == ok {
				t.Errorf("%T, %d bytes: %v", c.Ask, n, ok)
			}
		}
		for _, a := range []api.Answer{
			{Token: long[:n]}, {Runs: []api.Run{{Text: long[:n]}}}, {Runs: []api.Run{{}, {Id: 1, Open: true, Text: long[:n]}, {Text: "x"}}},
		} {
			if s, ok := answered(t, a); ok != (n <= 65535) || (s == "") == ok {
				t.Errorf("%d bytes: %v", n, ok)
			}
		}
	}
}

// P13.1: a text is bytes of any kind, letters or not.
func TestP13_1TextOfEachByte(t *testing.T) {
	for i := range 256 {
		for j := range 256 {
			s := string([]byte{byte(i), byte(j)})
			called(t, api.Call{Token: s, Ask: api.Insert{Text: s}})
			answered(t, api.Answer{Token: s, Runs: []api.Run{{Text: s}}})
		}
	}
}

// P13.1: a list has up to 255 items, wherever it stands.
func TestP13_1ListOfEachLength(t *testing.T) {
	for n := range 600 {
		entries := make([]api.Entry, n)
		runs := make([]api.Run, n)
		l := make([]int, n)
		for i := range n {
			entries[i], runs[i], l[i] = api.Entry{User: i}, api.Run{Id: i, Open: i%2 == 0}, -i
		}
		for _, a := range []api.Answer{
			{Runs: runs}, {Entries: entries}, {Entries: []api.Entry{{Segs: l}}}, {Entries: []api.Entry{{}, {Labels: l}, {User: 1}}},
			{Runs: runs, Entries: []api.Entry{{Segs: l, Labels: l}}},
		} {
			if s, ok := answered(t, a); ok != (n <= 255) || (s == "") == ok {
				t.Fatalf("%d items: %v", n, ok)
			}
		}
	}
}

// P13.1: a list that is empty is written alike, be it nil or not.
func TestP13_1EmptyLists(t *testing.T) {
	s, _ := answered(t, api.Answer{Entries: []api.Entry{{}}})
	x, ok := answered(t, api.Answer{Runs: []api.Run{}, Entries: []api.Entry{{Segs: []int{}, Labels: make([]int, 0, 9)}}})
	if x != s || !ok {
		t.Errorf("%q, not %q", x, s)
	}
}

// P13.1: a status is 0 to 255.
func TestP13_1EachStatus(t *testing.T) {
	for n := -600; n < 600; n++ {
		if _, ok := answered(t, api.Answer{Status: n, Num: 1}); ok != (n >= 0 && n <= 255) {
			t.Error(n, ok)
		}
	}
	for _, n := range numbers() {
		if _, ok := answered(t, api.Answer{Status: n}); ok != (n >= 0 && n <= 255) {
			t.Error(n, ok)
		}
	}
	for n := range 256 {
		if a, ok := told(t, string([]byte{byte(n)})+strings.Repeat("\x00", 20)); a.Status != n || !ok {
			t.Error(n, a.Status, ok)
		}
	}
}

// P13.1: a bool is read of a byte 0 or 1 alone.
func TestP13_1BoolOfEachByte(t *testing.T) {
	zeros := strings.Repeat("\x00", 26)
	run := strings.Repeat("\x00", 19) + "\x01" + strings.Repeat("\x00", 16)
	for n := range 256 {
		b := string([]byte{byte(n)})
		for other := range 3 {
			o := string([]byte{byte(other)})
			if c, ok := asked(t, "\x0e"+zeros+b+o); ok != (n < 2 && other < 2) || ok && c.Ask != (api.Grant{Write: n == 1, On: other == 1}) {
				t.Error(n, other, c, ok)
			}
			if c, ok := asked(t, "\x0e"+zeros+o+b); ok != (n < 2 && other < 2) || ok && c.Ask != (api.Grant{Write: other == 1, On: n == 1}) {
				t.Error(other, n, c, ok)
			}
		}
		if a, ok := told(t, run+b+"\x00\x01x\x00"); ok != (n < 2) || ok && a.Runs[0] != (api.Run{Open: n == 1, Text: "x"}) {
			t.Error(n, a, ok)
		}
	}
}

// P13.1: where bytes are missing or over, there is nothing.
func TestP13_1CutAndOver(t *testing.T) {
	r := rand.New(rand.NewSource(2))
	for op := 1; op <= 15; op++ {
		for range 20 {
			s, _ := called(t, api.Call{Token: drawnBytes(r, r.Intn(4)), Seq: r.Int(), Ask: drawnAsk(r, op)})
			for i := range len(s) {
				if _, ok := asked(t, s[:i]); ok {
					t.Errorf("op %d, %d bytes of %d", op, i, len(s))
				}
			}
			for _, x := range []string{s + "\x00", s + "\x01", s + "\xff", s + s, "\x00" + s} {
				if _, ok := asked(t, x); ok {
					t.Errorf("op %d, bytes over: %q", op, x)
				}
			}
		}
	}
	for range 60 {
		s, _ := answered(t, drawnAnswer(r))
		for i := range len(s) {
			if i > 300 && i < len(s)-300 && i%37 != 0 {
				continue
			}
			if _, ok := told(t, s[:i]); ok {
				t.Errorf("%d bytes of %d", i, len(s))
			}
		}
		for _, x := range []string{s + "\x00", s + "\x01", s + "\xff", s + s} {
			if _, ok := told(t, x); ok {
				t.Errorf("bytes over: %q", short(x))
			}
		}
	}
}

// P13.1: each byte of some calls and answers is made each other one.
func TestP13_1EachByteOtherwise(t *testing.T) {
	for _, ask := range []any{
		api.Login{User: "ab", Password: "c"}, api.Logout{}, api.Create{Label: 1}, api.Insert{Doc: 1, Seg: 2, At: 3, Text: "abc"}, api.Fork{Doc: 1},
		api.Delete{Doc: 1}, api.Grant{Label: 1, User: 2, Write: true}, api.Log{From: 1, N: 2}, api.Where{Doc: 1, Offset: 2}, api.View{Doc: 1, From: 2, N: 3},
	} {
		s, _ := called(t, api.Call{Token: "to", Seq: 1, Ask: ask})
		otherwise(s, func(x string) { asked(t, x) })
	}
	s, _ := answered(t, api.Answer{
		Status: 1, Token: "to", Num: 2, At: 3, Runs: []api.Run{{Id: 1, Open: true, Text: "ab"}, {Id: 2}},
		Entries: []api.Entry{{User: 1, Segs: []int{1}, Labels: []int{2, 3}}, {User: 2}},
	})
	otherwise(s, func(x string) { told(t, x) })
}

// otherwise calls do for s with each of its bytes as each other one.
func otherwise(s string, do func(string)) {
	for i := range len(s) {
		for b := range 256 {
			do(s[:i] + string([]byte{byte(b)}) + s[i+1:])
		}
	}
}

// P13.1: drawn calls and answers, and what comes of them when bytes are otherwise, against the chapter's words.
func TestP13_1Drawn(t *testing.T) {
	r := rand.New(rand.NewSource(3))
	calls, answers := map[bool]int{}, map[bool]int{}
	for range 20000 {
		s, ok := called(t, drawnCall(r))
		if !ok {
			t.Fatal("a call isn't written")
		}
		asked(t, s)
		_, ok = asked(t, spoilt(r, s))
		calls[ok]++
	}
	for range 5000 {
		s, ok := answered(t, drawnAnswer(r))
		if !ok {
			t.Fatal("an answer isn't written")
		}
		told(t, s)
		_, ok = told(t, spoilt(r, s))
		answers[ok]++
	}
	if calls[true] < 500 || calls[false] < 500 || answers[true] < 500 || answers[false] < 500 {
		t.Error("too few of a kind:", calls, answers)
	}
}

// P13.1: no two calls are written alike, nor two answers.
func TestP13_1NoneAlike(t *testing.T) {
	seen := map[string]any{}
	for _, token := range []string{"", "\x00", "a", "\x00\x00"} {
		for _, seq := range []int{0, 1, 256, -1} {
			for _, n := range []int{0, 1, 256} {
				for _, ask := range []any{
					api.Login{User: token, Password: "b"}, api.Login{User: "b", Password: token}, api.Logout{}, api.Create{Label: n}, api.Fork{Doc: n},
					api.Snap{Doc: n}, api.Unmake{Doc: n}, api.Insert{Doc: n, Text: token}, api.Insert{Seg: n, Text: token}, api.Where{Doc: n}, api.Where{Offset: n},
					api.Log{From: n}, api.Log{N: n}, api.View{From: n}, api.View{N: n}, api.Flat{Seg: n}, api.Flat{At: n},
				} {
					c := api.Call{Token: token, Seq: seq, Ask: ask}
					s, _ := called(t, c)
					if d := seen[s]; d != nil && d != c {
						t.Errorf("%#v and %#v: %q", c, d, s)
					}
					seen[s] = c
				}
			}
		}
	}
}

// R4: what is handed in is not changed, nor the room behind its lists.
func TestR4HandedIn(t *testing.T) {
	for _, segs := range [][]int{make([]int, 2, 9), make([]int, 255, 300), make([]int, 300)} {
		runs := append(make([]api.Run, 0, 9), api.Run{Id: 1, Text: "x"}, api.Run{Id: 2})
		entries := append(make([]api.Entry, 0, 9), api.Entry{User: 1, Segs: segs, Labels: segs[:1]})
		for i := range segs[:cap(segs)] {
			segs[:cap(segs)][i] = i + 7
		}
		words.Answer(api.Answer{Status: 1, Runs: runs, Entries: entries})
		for i, n := range segs[:cap(segs)] {
			if n != i+7 {
				t.Fatal("changed:", i, n)
			}
		}
		if runs[0] != (api.Run{Id: 1, Text: "x"}) || runs[1] != (api.Run{Id: 2}) || runs[:3][2] != (api.Run{}) {
			t.Error(runs)
		}
		if x := entries[:2][1]; x.User != 0 || x.Segs != nil || entries[0].User != 1 || len(entries[0].Segs) != len(segs) || len(entries[0].Labels) != 1 {
			t.Error(entries)
		}
	}
}

// R4: lists that are answered are new memory, no two of one answer the same.
func TestR4ListsAreNew(t *testing.T) {
	a := api.Answer{
		Runs:    []api.Run{{Id: 1, Text: "x"}, {Id: 2}},
		Entries: []api.Entry{{User: 1, Segs: []int{1, 2}, Labels: []int{3, 4}}, {User: 2, Segs: []int{5}, Labels: []int{6}}},
	}
	s, _ := answered(t, a)
	for range 2 {
		b, ok := words.Told(s)
		if !ok || !reflect.DeepEqual(b, a) {
			t.Fatalf("%#v, %v", b, ok)
		}
		_, _ = append(b.Runs, api.Run{Id: 9}), append(b.Entries, api.Entry{User: 9})
		for i, e := range b.Entries {
			_, _ = append(e.Segs, 9, 9, 9), append(e.Labels, 9, 9, 9)
			if !reflect.DeepEqual(b.Entries[i], a.Entries[i]) {
				t.Fatalf("%v", b.Entries[i])
			}
		}
		first := b.Entries[0]
		first.Segs[0], first.Segs[1] = 9, 9
		if !reflect.DeepEqual(first.Labels, []int{3, 4}) || !reflect.DeepEqual(b.Entries[1], a.Entries[1]) {
			t.Fatalf("%v", b.Entries)
		}
		b.Runs[0], b.Entries[0], first.Labels[0] = api.Run{}, api.Entry{}, 9
	}
}

// R7: the same asked twice is answered alike, whatever was asked between.
func TestR7(t *testing.T) {
	r := rand.New(rand.NewSource(4))
	for range 2000 {
		c, a := drawnCall(r), drawnAnswer(r)
		s, ok := words.Call(c)
		x, well := words.Answer(a)
		words.Ask(x)
		words.Told(s)
		words.Ask("\x63")
		words.Told("")
		words.Call(api.Call{Ask: 7})
		words.Answer(api.Answer{Status: -1})
		s2, ok2 := words.Call(c)
		x2, well2 := words.Answer(a)
		if s != s2 || ok != ok2 || x != x2 || well != well2 {
			t.Fatalf("%#v, %#v", c, a)
		}
		asked(t, s)
		told(t, x)
	}
}

// P0: no call panics, at any bytes and values.
func TestP0AllArguments(t *testing.T) {
	r := rand.New(rand.NewSource(5))
	for range 30000 {
		s := drawnBytes(r, r.Intn(90))
		asked(t, s)
		told(t, s)
		asked(t, string([]byte{byte(1 + r.Intn(15)), 0, byte(r.Intn(2))})+s)
		told(t, string([]byte{byte(r.Intn(256)), 0, 0})+strings.Repeat("\x00", 16)+string([]byte{byte(r.Intn(2)), byte(r.Intn(2))})+s)
	}
}

// P0: very long bytes, and very long lists, which aren't gone through once they are too long.
func TestP0VeryMany(t *testing.T) {
	big := strings.Repeat("\xff", 1<<26)
	zeros := strings.Repeat("\x00", 1<<26)
	for _, s := range []string{big, zeros, "\x01" + big, "\x04" + zeros, "\x00\xff\xff" + zeros} {
		if c, ok := words.Ask(s); c != (api.Call{}) || ok {
			t.Error("Ask", ok)
		}
		if a, ok := words.Told(s); !reflect.DeepEqual(a, api.Answer{}) || ok {
			t.Error("Told", ok)
		}
	}
	if s, ok := words.Call(api.Call{Token: big, Ask: api.Insert{Text: big}}); s != "" || ok {
		t.Error("Call", ok)
	}
	runs := make([]api.Run, 1<<20)
	entries := make([]api.Entry, 1<<20)
	l := make([]int, 1<<20)
	for i := range runs {
		runs[i].Text = big[:65535]
		entries[i].Segs, entries[i].Labels = l, l
	}
	for _, a := range []api.Answer{{Runs: runs}, {Entries: entries}, {Entries: entries[:1]}, {Entries: entries[:255]}, {Token: big, Runs: runs, Entries: entries}} {
		if s, ok := words.Answer(a); s != "" || ok {
			t.Error("Answer", ok)
		}
	}
	most := api.Answer{Runs: runs[:255], Entries: make([]api.Entry, 255)}
	for i := range most.Entries {
		most.Entries[i] = api.Entry{User: i, Segs: l[:255], Labels: l[:255]}
	}
	if s, ok := answered(t, most); !ok || len(s) != 21+255*(19+65535)+255*(26+2*255*8) {
		t.Error(len(s), ok)
	}
}
