package desk_test

import (
	"math"
	"math/rand"
	"slices"
	"strconv"
	"strings"
	"testing"

	"chancel/api"
	"chancel/desk"
)

// row: seats of the tokens a, b and so on, of the users 10, 11 and so on, used at these times, each with a last call of its own.
func row(used ...int) []api.Seat {
	var l []api.Seat
	for i, at := range used {
		l = append(l, api.Seat{Token: string(rune('a' + i)), User: 10 + i, Used: at, Seq: 5 + i, Answer: strconv.Itoa(i)})
	}
	return l
}

// tokens: of each seat, in order.
func tokens(l []api.Seat) string {
	s := ""
	for _, x := range l {
		s += x.Token
	}
	return s
}

// P11.1: the example of the chapter.
func TestP11_1Example(t *testing.T) {
	l, s := desk.Open(nil, "a", 3, 0, 9, 1)
	if s != api.Ok || !slices.Equal(l, []api.Seat{{Token: "a", User: 3}}) {
		t.Fatal(l, s)
	}
	if a, s := desk.Begin(l, "a", 1, 0, 9); a != "" || s != api.Ok {
		t.Error(a, s)
	}
	l = desk.Done(l, "a", 1, 0, "x")
	for seq, want := range []struct {
		answer string
		status int
	}{{"", api.Old}, {"x", api.Busy}, {"", api.Ok}} {
		if a, s := desk.Begin(l, "a", seq, 0, 9); a != want.answer || s != want.status {
			t.Error(seq, a, s)
		}
	}
}

// P11.1: a new seat stands behind all others, has what was handed in and nothing beside.
func TestP11_1Open(t *testing.T) {
	r := rand.New(rand.NewSource(1))
	for n := range 9 {
		l := row(make([]int, n)...)
		for range 40 {
			user, now := r.Intn(9)-1, r.Intn(1<<20)
			got, s := desk.Open(l, "new", user, now, 1<<20, n+1)
			if want := append(slices.Clone(l), api.Seat{Token: "new", User: user, Used: now}); s != api.Ok || !slices.Equal(got, want) {
				t.Fatal(got, s)
			}
		}
	}
}

// P11.1, R1: a token that is empty or has a seat is refused ahead of a desk that is full.
func TestP11_1OpenRefused(t *testing.T) {
	for _, x := range []struct {
		token string
		most  int
		want  int
	}{
		{"", 9, api.Busy}, {"a", 9, api.Busy}, {"b", 9, api.Busy}, {"c", 9, api.Busy},
		{"", 3, api.Busy}, {"a", 3, api.Busy}, {"c", 2, api.Busy}, {"", 0, api.Busy}, {"b", math.MinInt, api.Busy},
		{"d", 4, api.Ok}, {"d", 3, api.Full}, {"d", 2, api.Full}, {"d", 1, api.Full}, {"d", 0, api.Full}, {"d", -1, api.Full}, {"d", math.MinInt, api.Full}, {"d", math.MaxInt, api.Ok},
		{"A", 4, api.Ok}, {"aa", 4, api.Ok}, {"a ", 4, api.Ok}, {"a\x00", 4, api.Ok}, {"\x00", 4, api.Ok}, {"\xff", 4, api.Ok}, {"ab", 4, api.Ok},
	} {
		l := row(3, 2, 1)
		if _, s := opens(t, l, x.token, 1, 4, 5, x.most); s != x.want {
			t.Errorf("%q of %d: %d", x.token, x.most, s)
		}
	}
	if _, s := opens(t, nil, "a", 1, 4, 5, 0); s != api.Full {
		t.Error("a desk without seats:", s)
	}
	if _, s := opens(t, nil, "a", 1, 4, 5, 1); s != api.Ok {
		t.Error("an empty desk:", s)
	}
}

// P11.1: seats that are past neither hold their token nor take room, and are there no more behind a call that is Ok.
func TestP11_1OpenDropsPast(t *testing.T) {
	l := row(1, 9, 2, 8, 3)
	for _, x := range []struct {
		token string
		most  int
		want  int
		left  string
	}{
		{"z", 3, api.Ok, "bdz"}, {"z", 2, api.Full, "abcde"}, {"z", 5, api.Ok, "bdz"},
		{"a", 3, api.Ok, "bda"}, {"c", 3, api.Ok, "bdc"}, {"e", 3, api.Ok, "bde"}, {"a", 2, api.Full, "abcde"},
		{"b", 3, api.Busy, "abcde"}, {"d", 9, api.Busy, "abcde"}, {"", 9, api.Busy, "abcde"},
	} {
		got, s := opens(t, l, x.token, 1, 10, 2, x.most)
		if s != x.want || tokens(got) != x.left {
			t.Errorf("%q of %d: %d, %s", x.token, x.most, s, tokens(got))
		}
	}
	if got, s := opens(t, l, "c", 1, 100, 2, 1); s != api.Ok || !slices.Equal(got, []api.Seat{{Token: "c", User: 1, Used: 100}}) {
		t.Error("where all are past:", got, s)
	}
}

// P11.1: a desk grows up to most seats, and has room again where one is closed, or past.
func TestP11_1OpenOneByOne(t *testing.T) {
	for most := range 9 {
		var l []api.Seat
		for i := range most {
			s := 0
			if l, s = opens(t, l, strconv.Itoa(i), i, i, 100, most); s != api.Ok || len(l) != i+1 {
				t.Fatal(i, most, s)
			}
		}
		if _, s := opens(t, l, "more", 0, most, 100, most); s != api.Full {
			t.Error(most, s)
		}
		for i := range most {
			if _, s := opens(t, closes(t, l, strconv.Itoa(i)), "more", 0, most, 100, most); s != api.Ok {
				t.Error("closed:", i, most, s)
			}
		}
		if got, s := opens(t, l, "more", 0, 101, 100, most); most > 0 && (s != api.Ok || len(got) != most || got[0].Token == "0") {
			t.Error("past:", most, got, s)
		}
	}
}

// P11.1: a seat is past when it wasn't used for more than ttl, and not a moment before, in each call that asks.
func TestP11_1Ttl(t *testing.T) {
	for _, ttl := range []int{0, 1, 5, 1000000} {
		for _, used := range []int{0, 1, 7, 1<<40 - 1000002} {
			for _, idle := range []int{0, 1, ttl - 1, ttl, ttl + 1, ttl + 2} {
				l, now, here := row(used), used+max(idle, 0), idle <= ttl
				if n, ok := who(t, l, "a", now, ttl); ok != here || (n == 10) != here {
					t.Errorf("Who: used %d, now %d, ttl %d: %d, %v", used, now, ttl, n, ok)
				}
				if a, s := begins(t, l, "a", 5, now, ttl); (s == api.Busy) != here || (s == api.Token) == here || (a == "0") != here {
					t.Errorf("Begin: used %d, now %d, ttl %d: %q, %d", used, now, ttl, a, s)
				}
				if _, s := opens(t, l, "a", 3, now, ttl, 1); (s == api.Busy) != here || (s == api.Ok) == here {
					t.Errorf("Open: used %d, now %d, ttl %d: %d", used, now, ttl, s)
				}
				if _, s := opens(t, l, "z", 3, now, ttl, 1); (s == api.Full) != here || (s == api.Ok) == here {
					t.Errorf("Open of another: used %d, now %d, ttl %d: %d", used, now, ttl, s)
				}
			}
		}
	}
}

// P11.1, R6: times and ttl of any numbers, of which the difference could wrap.
func TestP11_1TtlOfAnyNumbers(t *testing.T) {
	near := edges()
	for _, n := range edges() {
		near = append(near, n/2, n/2+1, n/2-1)
	}
	for _, used := range near {
		l := row(used)
		for _, now := range near {
			for _, ttl := range near {
				who(t, l, "a", now, ttl)
				begins(t, l, "a", 5, now, ttl)
				opens(t, l, "z", 1, now, ttl, 1)
			}
		}
	}
}

// P11.1: Who answers whose the seat is, whatever number that is, and nobody of other tokens.
func TestP11_1Who(t *testing.T) {
	l := row(1, 2, 3)
	for i, name := range []string{"a", "b", "c"} {
		if n, ok := who(t, l, name, 3, 5); n != 10+i || !ok {
			t.Error(name, n, ok)
		}
	}
	for _, name := range []string{"", "d", "A", "aa", "a\x00", "ab", "\xff"} {
		if n, ok := who(t, l, name, 3, 5); n != 0 || ok {
			t.Errorf("%q: %d, %v", name, n, ok)
		}
		if n, ok := who(t, nil, name, 3, 5); n != 0 || ok {
			t.Errorf("%q of nobody: %d, %v", name, n, ok)
		}
	}
	for _, user := range edges() {
		l[1].User = user
		if n, ok := who(t, l, "b", 3, 5); n != user || !ok {
			t.Error(user, n, ok)
		}
	}
	for now := range 12 {
		for i, name := range []string{"a", "b", "c"} {
			if n, ok := who(t, row(1, 2, 3), name, now, 4); ok != (now <= i+5) || (n != 0) != ok {
				t.Errorf("%s at %d: %d, %v", name, now, n, ok)
			}
		}
	}
}

// P11.1: Begin asks the number of the last call of that seat, and no other.
func TestP11_1Begin(t *testing.T) {
	l := row(1, 2, 3)
	for i, name := range []string{"a", "b", "c"} {
		for _, seq := range append(edges(), 3, 4, 5, 6, 7, 8, 9) {
			want, kept := api.Ok, ""
			if seq == 5+i {
				want, kept = api.Busy, strconv.Itoa(i)
			} else if seq < 5+i {
				want = api.Old
			}
			if a, s := begins(t, l, name, seq, 3, 5); a != kept || s != want {
				t.Errorf("%s %d: %q, %d", name, seq, a, s)
			}
		}
	}
	for _, seq := range edges() {
		for _, last := range edges() {
			l[1].Seq = last
			begins(t, l, "b", seq, 3, 5)
			begins(t, l, "b", seq, 99, 5)
			begins(t, l, "d", seq, 3, 5)
			begins(t, nil, "b", seq, 3, 5)
		}
	}
}

// P11.1: a new seat has the number 0, and no answer to it.
func TestP11_1BeginOfNew(t *testing.T) {
	l, _ := desk.Open(nil, "a", 1, 7, 5, 1)
	for seq, want := range map[int]int{-1: api.Old, math.MinInt: api.Old, 0: api.Busy, 1: api.Ok, math.MaxInt: api.Ok} {
		if a, s := begins(t, l, "a", seq, 7, 5); a != "" || s != want {
			t.Errorf("%d: %q, %d", seq, a, s)
		}
	}
}

// P11.1: Done changes number, time and answer of that seat, in whatever order it stands, and nothing beside.
func TestP11_1Done(t *testing.T) {
	for i, name := range []string{"a", "b", "c"} {
		l := row(1, 2, 3)
		got := done(t, l, name, 50, 40, "fifty")
		for j := range l {
			want := l[j]
			if j == i {
				want = api.Seat{Token: name, User: 10 + i, Used: 40, Seq: 50, Answer: "fifty"}
			}
			if got[j] != want {
				t.Errorf("%s: %v", name, got)
			}
		}
	}
	for _, name := range []string{"", "d", "A", "aa", "a\x00"} {
		l := row(1, 2, 3)
		if got := done(t, l, name, 50, 40, "fifty"); !slices.Equal(got, l) {
			t.Errorf("%q: %v", name, got)
		}
		if got := done(t, nil, name, 50, 40, "fifty"); len(got) != 0 {
			t.Errorf("%q of nobody: %v", name, got)
		}
	}
	for _, n := range edges() {
		done(t, row(1, 2, 3), "b", n, 4, "")
		done(t, row(1, 2, 3), "b", 6, n, strings.Repeat("x", 70000))
	}
}

// P11.1: whether or not a seat is past isn't asked by Done, which makes it used again, nor by Close.
func TestP11_1DoneAndCloseOfPast(t *testing.T) {
	l := row(1, 50)
	if _, ok := who(t, l, "a", 50, 5); ok {
		t.Fatal("not past")
	}
	m := done(t, l, "a", 6, 50, "y")
	if n, ok := who(t, m, "a", 55, 5); n != 10 || !ok {
		t.Error(n, ok)
	}
	if a, s := begins(t, m, "a", 6, 55, 5); a != "y" || s != api.Busy {
		t.Error(a, s)
	}
	if got := closes(t, l, "a"); tokens(got) != "b" {
		t.Error(got)
	}
}

// P11.1: a seat that is used stays, while those that aren't go by.
func TestP11_1DoneKeepsSeat(t *testing.T) {
	l := row(0, 0)
	for now := 3; now < 60; now += 3 {
		if _, ok := who(t, l, "a", now, 5); !ok {
			t.Fatal(now)
		}
		if _, ok := who(t, l, "b", now, 5); ok != (now <= 5) {
			t.Fatal(now)
		}
		l = done(t, l, "a", now, now, "")
	}
	if got, s := opens(t, l, "b", 1, 60, 5, 2); s != api.Ok || tokens(got) != "ab" || got[1].Seq != 0 {
		t.Error(got, s)
	}
}

// P11.1: Close takes that seat away, and no other.
func TestP11_1Close(t *testing.T) {
	for name, want := range map[string]string{"a": "bcd", "b": "acd", "c": "abd", "d": "abc", "": "abcd", "e": "abcd", "A": "abcd", "aa": "abcd", "a\x00": "abcd"} {
		l := row(1, 2, 3, 4)
		got := closes(t, l, name)
		if tokens(got) != want {
			t.Errorf("%q: %v", name, got)
		}
		if n, ok := who(t, got, name, 4, 5); n != 0 || ok {
			t.Errorf("%q is there yet: %d, %v", name, n, ok)
		}
		if again := closes(t, got, name); !slices.Equal(again, got) {
			t.Errorf("%q twice: %v", name, again)
		}
	}
	if got := closes(t, row(1), "a"); len(got) != 0 {
		t.Error(got)
	}
	if got := closes(t, nil, "a"); len(got) != 0 {
		t.Error(got)
	}
}

// P11.1: a seat without a token is right; it is a seat as others are, but Open makes none.
func TestP11_1SeatWithoutToken(t *testing.T) {
	l := []api.Seat{{Token: "a", User: 1}, {User: 2, Used: 3, Seq: 4, Answer: "z"}}
	if n, ok := who(t, l, "", 3, 5); n != 2 || !ok {
		t.Error(n, ok)
	}
	if a, s := begins(t, l, "", 4, 3, 5); a != "z" || s != api.Busy {
		t.Error(a, s)
	}
	if got := done(t, l, "", 5, 9, "y"); got[1] != (api.Seat{User: 2, Used: 9, Seq: 5, Answer: "y"}) {
		t.Error(got)
	}
	if got := closes(t, l, ""); tokens(got) != "a" || len(got) != 1 {
		t.Error(got)
	}
}

// P11.1: drawn seats and calls, against the chapter's words.
func TestP11_1Drawn(t *testing.T) {
	r := rand.New(rand.NewSource(2))
	seen := map[int]int{}
	for range 20000 {
		l, now, ttl := drawn(r, 8), r.Intn(16), r.Intn(12)-1
		if r.Intn(20) == 0 {
			now, ttl = edges()[r.Intn(12)], edges()[r.Intn(12)]
		}
		_, s := opens(t, l, token(r), r.Intn(4), now, ttl, r.Intn(10)-1)
		_, b := begins(t, l, token(r), r.Intn(7)-1, now, ttl)
		who(t, l, token(r), now, ttl)
		done(t, l, token(r), r.Intn(7)-1, now, answer(r))
		closes(t, l, token(r))
		seen[s]++
		seen[100+b]++
	}
	for _, status := range []int{api.Ok, api.Busy, api.Full, 100 + api.Ok, 100 + api.Busy, 100 + api.Old, 100 + api.Token} {
		if seen[status] < 100 {
			t.Error("hardly seen:", status, seen[status])
		}
	}
}

// step makes one drawn call on a desk at a time, with rising numbers alone; of Done it tells token and number.
func step(t *testing.T, r *rand.Rand, l []api.Seat, now int) ([]api.Seat, string, int) {
	name := token(r)
	switch r.Intn(7) {
	case 0, 1:
		l, _ = opens(t, l, name, r.Intn(4), now, 9, 5)
	case 2:
		if r.Intn(4) == 0 {
			l = closes(t, l, name)
		}
	default:
		seq := r.Intn(12)
		if _, s := begins(t, l, name, seq, now, 9); s == api.Ok {
			return done(t, l, name, seq, now, answer(r)), name, seq
		}
	}
	return l, "", 0
}

// P11.2: what was Done with a number is begun no more with it, or one below, as long as the seat is there, whatever is done beside.
func TestP11_2(t *testing.T) {
	r := rand.New(rand.NewSource(3))
	refused := 0
	for range 300 {
		var l []api.Seat
		last := map[string]int{}
		for now := 0; now < 60; now += r.Intn(3) {
			name, seq := "", 0
			before := l
			if l, name, seq = step(t, r, l, now); name != "" {
				if old, was := last[name]; was && seq <= old {
					t.Fatalf("%q: %d behind %d", name, seq, old)
				}
				last[name] = seq
			}
			// A seat that is gone, or was opened anew, begins from 0.
			for token := range last {
				at := func(s api.Seat) bool { return s.Token == token }
				i, j := slices.IndexFunc(before, at), slices.IndexFunc(l, at)
				if i < 0 || j < 0 || l[j].Seq < before[i].Seq {
					delete(last, token)
				}
			}
			for name, seq := range last {
				for n := -1; n < 14; n++ {
					if _, s := begins(t, l, name, n, now, 9); s == api.Ok && n <= seq {
						t.Fatalf("%q: %d is begun, %d was done", name, n, seq)
					} else if s != api.Ok && s != api.Token {
						refused++
					}
				}
			}
		}
	}
	if refused == 0 {
		t.Error("nothing was refused")
	}
}

// P11.2: at each number, up to the greatest: it, and all below it, are begun no more; those above are.
func TestP11_2Edges(t *testing.T) {
	for _, seq := range append(edges(), 5, 255, 65535, 1<<31-1, 1<<31) {
		l := done(t, row(1, 1, 1), "b", seq, 1, "last")
		for _, n := range append(edges(), 5, 255, 65535, 1<<31-1, 1<<31) {
			a, s := desk.Begin(l, "b", n, 1, 5)
			if (s == api.Ok) != (n > seq) || (a == "last") != (n == seq) {
				t.Errorf("%d was done, and %d: %q, %d", seq, n, a, s)
			}
		}
		if a, s := desk.Begin(l, "a", 5, 1, 5); a != "0" || s != api.Busy {
			t.Error("another seat:", a, s)
		}
	}
}

// P11.2: the answer is there as long as no other one is, also one that is empty, or long, or of any bytes.
func TestP11_2SameAnswer(t *testing.T) {
	for _, text := range []string{"", "\x00", "\xff\xfe", "ä€😀", strings.Repeat("x", 70000)} {
		l := done(t, row(1, 1), "a", 9, 2, text)
		l = done(t, l, "b", 9, 3, "other")
		l, _ = opens(t, l, "z", 1, 3, 5, 9)
		l = closes(t, l, "b")
		for range 3 {
			if a, s := begins(t, l, "a", 9, 3, 5); a != text || s != api.Busy {
				t.Errorf("%d bytes: %q, %d", len(text), a, s)
			}
		}
	}
}

// R4: what is done to an answer changes neither what was handed in nor another answer, nor does what is done to what was handed in change an answer.
func TestR4(t *testing.T) {
	calls := []func(l []api.Seat) []api.Seat{
		func(l []api.Seat) []api.Seat { m, _ := desk.Open(l, "z", 1, 4, 5, 9); return m },
		func(l []api.Seat) []api.Seat { m, _ := desk.Open(l, "a", 1, 4, 5, 9); return m },
		func(l []api.Seat) []api.Seat { m, _ := desk.Open(l, "z", 1, 4, 5, 2); return m },
		func(l []api.Seat) []api.Seat { m, _ := desk.Open(l, "z", 1, 8, 5, 9); return m },
		func(l []api.Seat) []api.Seat { return desk.Done(l, "b", 9, 9, "y") },
		func(l []api.Seat) []api.Seat { return desk.Done(l, "z", 9, 9, "y") },
		func(l []api.Seat) []api.Seat { return desk.Close(l, "b") },
		func(l []api.Seat) []api.Seat { return desk.Close(l, "z") },
	}
	spoil := func(l []api.Seat) {
		for i := range l[:cap(l)] {
			l[:cap(l)][i] = api.Seat{Token: "spoilt", User: -99, Used: -99, Seq: -99, Answer: "spoilt"}
		}
	}
	for i, call := range calls {
		in := roomy(row(1, 2, 3))
		first, second, want := call(in), call(in), call(row(1, 2, 3))
		spoil(first)
		if !slices.Equal(second, want) {
			t.Errorf("call %d: an answer shares with another: %v", i, second)
		}
		stay(t, "a call", in, row(1, 2, 3))
		spoil(in)
		if !slices.Equal(second, want) {
			t.Errorf("call %d: an answer shares with what was handed in: %v", i, second)
		}
	}
}

// R7: the same asked twice is answered alike, whatever was asked between.
func TestR7(t *testing.T) {
	r := rand.New(rand.NewSource(4))
	for range 300 {
		l, name, now, ttl := drawn(r, 8), token(r), r.Intn(16), r.Intn(12)
		m, s := desk.Open(l, name, 1, now, ttl, 5)
		a, b := desk.Begin(l, name, 2, now, ttl)
		n, ok := desk.Who(l, name, now, ttl)
		desk.Open(drawn(r, 8), name, 2, now+1, ttl, 8)
		desk.Close(desk.Done(l, name, 99, 99, "between"), name)
		m2, s2 := desk.Open(l, name, 1, now, ttl, 5)
		a2, b2 := desk.Begin(l, name, 2, now, ttl)
		n2, ok2 := desk.Who(l, name, now, ttl)
		if !slices.Equal(m, m2) || s != s2 || a != a2 || b != b2 || n != n2 || ok != ok2 {
			t.Fatal(l, name, now, ttl)
		}
	}
}

// P0: no call panics, at any numbers and texts, also of seats that aren't right.
func TestP0AllArguments(t *testing.T) {
	lists := [][]api.Seat{nil, {}, {{}}, {{}, {}}, row(1, 2, 3), append(row(1, 2), row(9, 8, 7)...)}
	for _, n := range edges() {
		lists = append(lists, []api.Seat{{Token: "a", User: n, Used: n, Seq: n}, {Token: "a", User: -n, Used: -n, Seq: -n}})
	}
	for _, l := range lists {
		for _, name := range []string{"", "a", "\xff", strings.Repeat("a", 1000)} {
			for _, x := range edges() {
				for _, y := range edges() {
					desk.Who(l, name, x, y)
					desk.Begin(l, name, y, x, 5)
					desk.Begin(l, name, x, 5, y)
					desk.Done(l, name, x, y, name)
					desk.Open(l, name, y, x, y, x)
					desk.Open(l, name, x, y, 5, y)
				}
			}
			desk.Close(l, name)
		}
	}
}

// P0: a great many seats.
func TestP0VeryMany(t *testing.T) {
	const n = 100000
	l := make([]api.Seat, n)
	for i := range l {
		l[i] = api.Seat{Token: strconv.Itoa(i), User: i, Used: i % 10, Seq: i}
	}
	if u, ok := desk.Who(l, strconv.Itoa(n-1), 9, 9); u != n-1 || !ok {
		t.Error(u, ok)
	}
	m, s := desk.Open(l, "new", 1, 14, 9, n/2+1)
	if s != api.Ok || len(m) != n/2+1 || m[n/2].Token != "new" {
		t.Error(len(m), s)
	}
	if m, s = desk.Open(l, "new", 1, 14, 9, n/2); s != api.Full || len(m) != n {
		t.Error(len(m), s)
	}
	m = desk.Close(desk.Done(l, strconv.Itoa(n-1), n, 9, "x"), "0")
	if len(m) != n-1 || m[n-2].Answer != "x" || m[0].Token != "1" {
		t.Error(len(m))
	}
}
