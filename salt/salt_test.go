package salt_test

import (
	"crypto/sha256"
	"encoding/hex"
	"math/rand"
	"slices"
	"strings"
	"testing"

	"chancel/api"
	"chancel/salt"
)

// kit: SHA-256 of the library of the language, which the program itself may not use.
func kit(text string) string {
	h := sha256.Sum256([]byte(text))
	return hex.EncodeToString(h[:])
}

// users: n right users, of the names a, b and so on, of the passwords a!, b! and so on.
func users(n int) []api.User {
	var l []api.User
	for i := range n {
		name := string(rune('a' + i))
		l = append(l, api.User{Name: name, Salt: "salt" + name, Seal: kit("salt" + name + "\x00" + name + "!")})
	}
	return l
}

// one: a right user of that name, with the salt and the seal of another.
func one(name string) api.User {
	return api.User{Name: name, Salt: "s", Seal: kit("s\x00x")}
}

// P10.1: the example of the chapter, and others whose seals are written out.
func TestP10_1Examples(t *testing.T) {
	for _, x := range []struct{ salt, password, seal string }{
		{"", "", "6e340b9cffb37a989ca544e6bb780a2c78901d3fb33738768511a30617afa01d"},
		{"", "\x00", "96a296d224f285c67bee93c30f8a309157f0daa35dc5b87e410b78630a09cfc7"},
		{"\x00", "", "96a296d224f285c67bee93c30f8a309157f0daa35dc5b87e410b78630a09cfc7"},
		{"", strings.Repeat("\x00", 63), "f5a5fd42d16a20302798ef6ed309979b43003d2320d9f0e8ea9831a92759fb4b"},
		{strings.Repeat("\x00", 20), strings.Repeat("\x00", 11), "66687aadf862bd776c8fc18b8e9f8e20089714856ee233b3902a591d0d5f2925"},
	} {
		if got := salt.Seal(x.salt, x.password); got != x.seal {
			t.Errorf("Seal(%q, %q): %s", x.salt, x.password, got)
		}
	}
}

// P10.1: the words of the chapter are those of the SHA-256 that all know.
func TestP10_1Words(t *testing.T) {
	if got := modelHash("abc"); got != "ba7816bf8f01cfea414140de5dae2223b00361a396177a9cb410ff61f20015ad" {
		t.Error(got)
	}
	r := rand.New(rand.NewSource(1))
	for n := range 200 {
		if text := drawnBytes(r, n); modelHash(text) != kit(text) {
			t.Errorf("%q", text)
		}
	}
}

// P10.1: of each length, about the ends of blocks and of what closes a text, and of each way to part it.
func TestP10_1SealOfEachLength(t *testing.T) {
	r := rand.New(rand.NewSource(2))
	for n := range 261 {
		text := drawnBytes(r, n)
		for at := 0; at <= n; at += 1 + r.Intn(9) {
			if got := salt.Seal(text[:at], text[at:]); got != kit(text[:at]+"\x00"+text[at:]) {
				t.Fatalf("%d bytes and %d: %s", at, n-at, got)
			}
		}
		if got := salt.Seal(text, ""); got != kit(text+"\x00") {
			t.Fatalf("a salt of %d bytes alone: %s", n, got)
		}
	}
}

// P10.1: each byte, as salt and as password, is taken in as it is, letters or not.
func TestP10_1SealOfEachByte(t *testing.T) {
	for b := range 256 {
		text := string([]byte{byte(b)})
		if got := salt.Seal(text, "p"); got != kit(text+"\x00p") {
			t.Errorf("salt %q: %s", text, got)
		}
		if got := salt.Seal("s", text); got != kit("s\x00"+text) {
			t.Errorf("password %q: %s", text, got)
		}
	}
	for _, text := range []string{"ä€😀", "\xff\xfe", "\xed\xa0\x80", "a\xcc\x88", "\ufffd", "A", " a", "a "} {
		if got := salt.Seal(text, text); got != modelSeal(text, text) {
			t.Errorf("%q: %s", text, got)
		}
	}
}

// P10.1: each bit of a text of two blocks counts.
func TestP10_1SealOfEachBit(t *testing.T) {
	seen := map[string]int{}
	for bit := range 8 * 100 {
		b := make([]byte, 100)
		b[bit/8] = 1 << (bit % 8)
		got := salt.Seal("", string(b))
		if got != kit("\x00"+string(b)) {
			t.Errorf("bit %d: %s", bit, got)
		}
		seen[got]++
	}
	if len(seen) != 800 {
		t.Error(len(seen))
	}
}

// P10.1: long texts, of many blocks, whose length in bits fills several bytes.
func TestP10_1SealOfLongTexts(t *testing.T) {
	r := rand.New(rand.NewSource(3))
	for _, n := range []int{8191, 8192, 65535, 1 << 21, 1<<21 + 55} {
		text := drawnBytes(r, n)
		if salt.Seal(text, "") != kit(text+"\x00") || salt.Seal("", text) != kit("\x00"+text) {
			t.Errorf("%d bytes", n)
		}
	}
}

// P10.1: salt and password are apart, but where the salt has a byte 0 of its own.
func TestP10_1SealApart(t *testing.T) {
	seen := map[string]int{}
	for _, x := range [][2]string{{"", ""}, {"a", ""}, {"", "a"}, {"a", "b"}, {"b", "a"}, {"ab", ""}, {"", "ab"}, {"a", "B"}, {"0", ""}, {"", "0"}} {
		seen[salt.Seal(x[0], x[1])]++
	}
	if len(seen) != 10 {
		t.Error(seen)
	}
	if salt.Seal("a\x00b", "c") != salt.Seal("a", "b\x00c") {
		t.Error("one text, SHA-256 of which is two")
	}
}

// P10.1: from 1 to 8 users, whatever salts and seals they have.
func TestP10_1RightNumber(t *testing.T) {
	for n := range 20 {
		if got := salt.Right(users(n)); got != (n >= 1 && n <= 8) {
			t.Errorf("%d users: %v", n, got)
		}
	}
	if salt.Right(nil) || salt.Right([]api.User{}) || salt.Right([]api.User{{}}) {
		t.Error("users that are none")
	}
	if !salt.Right([]api.User{one("a"), one("b"), one("c")}) {
		t.Error("one salt and one seal for all are right")
	}
}

// P10.1: a name of 1 to 20 bytes, whatever they are.
func TestP10_1RightName(t *testing.T) {
	for n := range 50 {
		for _, letter := range []string{"a", "\x00", "\xff", "ä", "€", "😀"} {
			name := strings.Repeat(letter, n)
			want := len(name) >= 1 && len(name) <= 20
			for i := range 8 {
				l := users(8)
				l[i].Name = name
				// Of users a to h the first may have the name already.
				if taken := name == "a" && i > 0; salt.Right(l) != (want && !taken) {
					t.Errorf("user %d of name %q: %v", i, name, !want)
				}
			}
		}
	}
}

// P10.1: no two users have one name, wherever they stand.
func TestP10_1RightNamesUnlike(t *testing.T) {
	for n := 2; n <= 8; n++ {
		for i := range n {
			for j := range n {
				l := users(n)
				l[i].Name = l[j].Name
				if salt.Right(l) != (i == j) {
					t.Errorf("%d users, of which %d and %d have one name", n, i, j)
				}
			}
		}
	}
	for _, x := range [][2]string{{"a", "A"}, {"a", "a "}, {"a", "a\x00"}, {"a", "aa"}, {"ä", "a\xcc\x88"}, {"\xff", "\xfe"}, {"\xff", "\ufffd"}} {
		if !salt.Right([]api.User{one(x[0]), one(x[1])}) {
			t.Errorf("%q", x)
		}
	}
}

// P10.1: a salt of up to 20 bytes, whatever they are, also of none.
func TestP10_1RightSalt(t *testing.T) {
	for n := range 50 {
		for _, letter := range []string{"a", "\x00", "\xff", "ä", "😀"} {
			text := strings.Repeat(letter, n)
			for i := range 8 {
				l := users(8)
				l[i].Salt = text
				if salt.Right(l) != (len(text) <= 20) {
					t.Errorf("user %d of salt %q", i, text)
				}
			}
		}
	}
}

// P10.1: a seal of 64 digits, whether or not it is one of the user's salt.
func TestP10_1RightSeal(t *testing.T) {
	for n := range 140 {
		for i := range 8 {
			l := users(8)
			l[i].Seal = strings.Repeat("7", n)
			if salt.Right(l) != (n == 64) {
				t.Errorf("user %d with a seal of %d digits", i, n)
			}
		}
	}
	for at := range 64 {
		for b := range 256 {
			l := users(2)
			l[1].Seal = l[1].Seal[:at] + string([]byte{byte(b)}) + l[1].Seal[at+1:]
			if want := b >= '0' && b <= '9' || b >= 'a' && b <= 'f'; salt.Right(l) != want {
				t.Errorf("a seal with byte %d at %d", b, at)
			}
		}
	}
	for _, seal := range []string{"", strings.Repeat("A", 64), strings.ToUpper(kit("x")), strings.Repeat("٣", 32), "0x" + strings.Repeat("0", 62), " " + strings.Repeat("0", 63), "+" + strings.Repeat("0", 63)} {
		if salt.Right([]api.User{{Name: "a", Seal: seal}}) {
			t.Errorf("%q", seal)
		}
	}
}

// P10.1: what Seal answers is right as a seal.
func TestP10_1RightOfSeal(t *testing.T) {
	r := rand.New(rand.NewSource(4))
	for range 500 {
		if s := salt.Seal(word(r), drawnBytes(r, r.Intn(90))); !salt.Right([]api.User{{Name: "a", Seal: s}}) {
			t.Error(s)
		}
	}
}

// P10.1: each user is found by their name and password, and by nothing else.
func TestP10_1Find(t *testing.T) {
	for n := range 12 {
		l := users(n)
		for i := range 12 {
			for j := range 12 {
				name, password := string(rune('a'+i)), string(rune('a'+j))+"!"
				got, ok := salt.Find(l, name, password)
				if ok != (i == j && i < n) || ok && got != i || !ok && got != 0 {
					t.Errorf("of %d users Find(%q, %q): %d, %v", n, name, password, got, ok)
				}
			}
		}
	}
	for _, password := range []string{"", "c", "C!", "c! ", " c!", "c!\x00", "\x00c!", "saltc", "saltc\x00c!", users(3)[2].Seal} {
		if n, ok := salt.Find(users(3), "c", password); n != 0 || ok {
			t.Errorf("%q: %d, %v", password, n, ok)
		}
	}
	for _, name := range []string{"", "C", "c ", "cc", "c\x00", "saltc", "d", users(3)[2].Seal} {
		if n, ok := salt.Find(users(3), name, "c!"); n != 0 || ok {
			t.Errorf("%q: %d, %v", name, n, ok)
		}
	}
}

// P10.1: of several users of one name the first alone is asked.
func TestP10_1FindFirst(t *testing.T) {
	l := users(5)
	l[1].Name, l[3].Name = "e", "e"
	if n, ok := salt.Find(l, "e", "b!"); n != 1 || !ok {
		t.Error(n, ok)
	}
	for _, password := range []string{"d!", "e!"} {
		if n, ok := salt.Find(l, "e", password); n != 0 || ok {
			t.Error(password, n, ok)
		}
	}
	l[3].Salt, l[3].Seal = l[1].Salt, l[1].Seal
	if n, ok := salt.Find(l, "e", "b!"); n != 1 || !ok {
		t.Error(n, ok)
	}
}

// P10.1: the salt is that of the user, and a seal is theirs digit by digit.
func TestP10_1FindSalt(t *testing.T) {
	for _, x := range []struct {
		u  api.User
		ok bool
	}{
		{api.User{Name: "a", Salt: "s", Seal: kit("s\x00p")}, true},
		{api.User{Name: "a", Seal: kit("\x00p")}, true},
		{api.User{Name: "a", Salt: "s", Seal: kit("\x00p")}, false},
		{api.User{Name: "a", Seal: kit("s\x00p")}, false},
		{api.User{Name: "a", Salt: "s", Seal: kit("sp")}, false},
		{api.User{Name: "a", Salt: "s", Seal: kit("p\x00s")}, false},
		{api.User{Name: "a", Salt: "S", Seal: kit("s\x00p")}, false},
		{api.User{Name: "a", Salt: "s", Seal: strings.ToUpper(kit("s\x00p"))}, false},
		{api.User{Name: "a", Salt: "s", Seal: kit("s\x00p")[:63]}, false},
		{api.User{Name: "a", Salt: "s", Seal: kit("s\x00p") + "0"}, false},
		{api.User{Name: "a", Salt: "s"}, false},
		{api.User{Name: "a", Salt: "s", Seal: "p"}, false},
	} {
		if n, ok := salt.Find([]api.User{x.u}, "a", "p"); n != 0 || ok != x.ok {
			t.Errorf("%q: %d, %v", x.u, n, ok)
		}
	}
}

// P10.1: of users that aren't right the same is told: too many, without names, with long names and salts.
func TestP10_1FindOfWrongUsers(t *testing.T) {
	long := strings.Repeat("x", 300)
	l := append(users(20), api.User{Name: "", Salt: "s", Seal: kit("s\x00")}, api.User{Name: long, Salt: long, Seal: kit(long + "\x00" + long)})
	for _, x := range []struct {
		name, password string
		want           int
	}{{"", "", 20}, {long, long, 21}, {"t", "t!", 19}, {"i", "i!", 8}} {
		if n, ok := salt.Find(l, x.name, x.password); n != x.want || !ok {
			t.Errorf("%q: %d, %v", x.name, n, ok)
		}
	}
	for _, x := range [][2]string{{"", "s"}, {long, ""}, {long[1:], long}, {"t", long}} {
		if n, ok := salt.Find(l, x[0], x[1]); n != 0 || ok {
			t.Errorf("%q: %d, %v", x, n, ok)
		}
	}
}

// P10.1: drawn users, names and passwords, against the chapter's words.
func TestP10_1Drawn(t *testing.T) {
	r := rand.New(rand.NewSource(5))
	found, rights := 0, 0
	for range 2000 {
		l := drawnUsers(r, r.Intn(10))
		if r.Intn(9) == 0 && len(l) > 0 {
			l[r.Intn(len(l))].Seal += word(r)
		}
		right(t, l)
		if salt.Right(l) {
			rights++
		}
		for range 4 {
			name, password := word(r), word(r)
			find(t, l, name, password)
			if _, ok := salt.Find(l, name, password); ok {
				found++
			}
		}
	}
	if found < 100 || rights < 100 {
		t.Error("too few:", found, rights)
	}
}

// R2: what isn't found is told as 0 and false, also where the user of that name has another number.
func TestR2(t *testing.T) {
	l := users(8)
	for i := range l {
		if n, ok := salt.Find(l, l[i].Name, "wrong"); n != 0 || ok {
			t.Errorf("user %d: %d, %v", i, n, ok)
		}
	}
	if n, ok := salt.Find(nil, "", ""); n != 0 || ok {
		t.Error(n, ok)
	}
}

// R4: neither the users nor the room behind them are written to, nor are they kept.
func TestR4(t *testing.T) {
	room := users(8)
	before := slices.Clone(room)
	salt.Right(room[:3])
	salt.Find(room[:3], "b", "b!")
	salt.Find(room[:3], "z", "b!")
	if !slices.Equal(room, before) {
		t.Error(room)
	}
	room[1].Name = "new"
	if n, ok := salt.Find(room, "b", "b!"); n != 0 || ok {
		t.Error(n, ok)
	}
	if n, ok := salt.Find(room, "new", "b!"); n != 1 || !ok {
		t.Error(n, ok)
	}
	if room[2].Name = "new"; salt.Right(room) || salt.Right(room[:3]) || !salt.Right(room[:2]) {
		t.Error("Right has kept a name")
	}
}

// R7: what was asked ahead plays no part.
func TestR7(t *testing.T) {
	r := rand.New(rand.NewSource(6))
	want := kit("s\x00p")
	for n := range 200 {
		salt.Seal(drawnBytes(r, n), drawnBytes(r, r.Intn(70)))
		salt.Find(users(3), "c", drawnBytes(r, n))
		salt.Right(users(n % 10))
		if got := salt.Seal("s", "p"); got != want {
			t.Fatal(n, got)
		}
		if i, ok := salt.Find(users(3), "c", "c!"); i != 2 || !ok {
			t.Fatal(n, i, ok)
		}
	}
}

// P0: no texts and users, however wrong, make a call panic, or go on for ever.
func TestP0AllArguments(t *testing.T) {
	texts := []string{"", "\x00", "a", "\xff", "€", strings.Repeat("0", 64), strings.Repeat("\x00", 64), strings.Repeat("x", 5000)}
	for _, a := range texts {
		for _, b := range texts {
			if got := salt.Seal(a, b); got != kit(a+"\x00"+b) {
				t.Errorf("Seal(%q, %q): %s", a, b, got)
			}
			for _, c := range texts {
				l := []api.User{{Name: a, Salt: b, Seal: c}}
				right(t, l)
				find(t, l, a, b)
				find(t, l, b, c)
			}
		}
	}
}

// P0: very many users, and texts that are long.
func TestP0VeryMany(t *testing.T) {
	many := make([]api.User, 200000)
	if salt.Right(many) {
		t.Error("right")
	}
	many[len(many)-1] = one("z")
	if n, ok := salt.Find(many, "z", "x"); n != len(many)-1 || !ok {
		t.Error(n, ok)
	}
	long := strings.Repeat("0", 1<<24)
	if salt.Right([]api.User{{Name: long, Salt: long, Seal: long}}) {
		t.Error("right")
	}
	if salt.Seal(long, long) != kit(long+"\x00"+long) {
		t.Error("long")
	}
}
