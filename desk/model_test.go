package desk_test

import (
	"fmt"
	"math"
	"math/big"
	"math/rand"
	"slices"
	"testing"

	"chancel/api"
	"chancel/desk"
)

// edges: numbers about 0, about the greatest time, and at the ends of what a number can be.
func edges() []int {
	return []int{math.MinInt, math.MinInt + 1, -1 << 40, -2, -1, 0, 1, 2, 1<<40 - 1, 1 << 40, math.MaxInt - 1, math.MaxInt}
}

// modelPast: as the chapter's words tell it, in numbers that have no end.
func modelPast(s api.Seat, now, ttl int) bool {
	idle := new(big.Int).Sub(big.NewInt(int64(now)), big.NewInt(int64(s.Used)))
	return idle.Cmp(big.NewInt(int64(ttl))) > 0
}

// split: the seats that aren't past, in order, and by their tokens.
func split(l []api.Seat, now, ttl int) ([]api.Seat, map[string]api.Seat) {
	var here []api.Seat
	of := map[string]api.Seat{}
	for _, s := range l {
		if !modelPast(s, now, ttl) {
			here, of[s.Token] = append(here, s), s
		}
	}
	return here, of
}

// modelOpen: as the chapter's words tell it.
func modelOpen(l []api.Seat, token string, user, now, ttl, most int) ([]api.Seat, int) {
	here, of := split(l, now, ttl)
	if _, taken := of[token]; taken || token == "" {
		return l, api.Busy
	}
	if len(here) >= most {
		return l, api.Full
	}
	return append(here, api.Seat{Token: token, User: user, Used: now, Seq: 0, Answer: ""}), api.Ok
}

// modelWho: as the chapter's words tell it.
func modelWho(l []api.Seat, token string, now, ttl int) (int, bool) {
	_, of := split(l, now, ttl)
	s, ok := of[token]
	return s.User, ok
}

// modelBegin: as the chapter's words tell it.
func modelBegin(l []api.Seat, token string, seq, now, ttl int) (string, int) {
	_, of := split(l, now, ttl)
	s, ok := of[token]
	if !ok {
		return "", api.Token
	}
	if seq == s.Seq {
		return s.Answer, api.Busy
	}
	if seq < s.Seq {
		return "", api.Old
	}
	return "", api.Ok
}

// modelDone: as the chapter's words tell it.
func modelDone(l []api.Seat, token string, seq, now int, answer string) []api.Seat {
	var out []api.Seat
	for _, s := range l {
		if s.Token == token {
			s = api.Seat{Token: token, User: s.User, Used: now, Seq: seq, Answer: answer}
		}
		out = append(out, s)
	}
	return out
}

// modelClose: as the chapter's words tell it.
func modelClose(l []api.Seat, token string) []api.Seat {
	var out []api.Seat
	for _, s := range l {
		if s.Token != token {
			out = append(out, s)
		}
	}
	return out
}

// roomy: l with room behind it, in which seats stand that aren't its own.
func roomy(l []api.Seat) []api.Seat {
	room := append(slices.Clone(l), strange, strange, strange)
	return room[:len(l)]
}

// strange: a seat that stands behind lists.
var strange = api.Seat{Token: "strange", User: -7, Used: 7, Seq: 77, Answer: "strange"}

// stay tells whether a list of roomy is as it was, the room behind it too.
func stay(t *testing.T, call string, l, before []api.Seat) {
	t.Helper()
	if want := append(slices.Clone(before), strange, strange, strange); !slices.Equal(l[:len(l)+3], want) {
		t.Fatalf("%s of %v has made of it %v", call, before, l[:len(l)+3])
	}
}

// opens asks Open once, and whether it answers as the model, and leaves what was handed in.
func opens(t *testing.T, l []api.Seat, token string, user, now, ttl, most int) ([]api.Seat, int) {
	t.Helper()
	call, in := fmt.Sprintf("Open(%q, %d, %d, %d, %d)", token, user, now, ttl, most), roomy(l)
	got, s := desk.Open(in, token, user, now, ttl, most)
	if want, status := modelOpen(l, token, user, now, ttl, most); s != status || !slices.Equal(got, want) {
		t.Fatalf("%s of %v: %v, %d, not %v, %d", call, l, got, s, want, status)
	}
	stay(t, call, in, l)
	return got, s
}

// who asks Who once, and whether it answers as the model, and leaves what was handed in.
func who(t *testing.T, l []api.Seat, token string, now, ttl int) (int, bool) {
	t.Helper()
	call, in := fmt.Sprintf("Who(%q, %d, %d)", token, now, ttl), roomy(l)
	got, ok := desk.Who(in, token, now, ttl)
	if want, well := modelWho(l, token, now, ttl); got != want || ok != well {
		t.Fatalf("%s of %v: %d, %v, not %d, %v", call, l, got, ok, want, well)
	}
	stay(t, call, in, l)
	return got, ok
}

// begins asks Begin once, and whether it answers as the model, and leaves what was handed in.
func begins(t *testing.T, l []api.Seat, token string, seq, now, ttl int) (string, int) {
	t.Helper()
	call, in := fmt.Sprintf("Begin(%q, %d, %d, %d)", token, seq, now, ttl), roomy(l)
	got, s := desk.Begin(in, token, seq, now, ttl)
	if want, status := modelBegin(l, token, seq, now, ttl); got != want || s != status {
		t.Fatalf("%s of %v: %q, %d, not %q, %d", call, l, got, s, want, status)
	}
	stay(t, call, in, l)
	return got, s
}

// done asks Done once, and whether it answers as the model, and leaves what was handed in.
func done(t *testing.T, l []api.Seat, token string, seq, now int, answer string) []api.Seat {
	t.Helper()
	call, in := fmt.Sprintf("Done(%q, %d, %d, %q)", token, seq, now, answer), roomy(l)
	got := desk.Done(in, token, seq, now, answer)
	if want := modelDone(l, token, seq, now, answer); !slices.Equal(got, want) {
		t.Fatalf("%s of %v: %v, not %v", call, l, got, want)
	}
	stay(t, call, in, l)
	return got
}

// closes asks Close once, and whether it answers as the model, and leaves what was handed in.
func closes(t *testing.T, l []api.Seat, token string) []api.Seat {
	t.Helper()
	call, in := fmt.Sprintf("Close(%q)", token), roomy(l)
	got := desk.Close(in, token)
	if want := modelClose(l, token); !slices.Equal(got, want) {
		t.Fatalf("%s of %v: %v, not %v", call, l, got, want)
	}
	stay(t, call, in, l)
	return got
}

// token: one of few, so that it is often one of a desk's; some of them are no letters.
func token(r *rand.Rand) string {
	return []string{"", "a", "b", "A", "aa", "a\x00", "ä", "\xff", "\xfe", "c"}[r.Intn(10)]
}

// answer: one of few, some of them no letters.
func answer(r *rand.Rand) string {
	return []string{"", "x", "y", "\x00\xff", "a long answer"}[r.Intn(5)]
}

// drawn: right seats, up to n, drawn at random, of times and numbers that are few, and some at the ends.
func drawn(r *rand.Rand, n int) []api.Seat {
	var l []api.Seat
	for range r.Intn(n + 1) {
		s := api.Seat{Token: token(r), User: r.Intn(4), Used: r.Intn(12), Seq: r.Intn(5), Answer: answer(r)}
		if r.Intn(20) == 0 {
			s.Used, s.Seq = edges()[r.Intn(12)], edges()[r.Intn(12)]
		}
		if !slices.ContainsFunc(l, func(x api.Seat) bool { return x.Token == s.Token }) {
			l = append(l, s)
		}
	}
	return l
}
