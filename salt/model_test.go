package salt_test

import (
	"fmt"
	"math/big"
	"math/bits"
	"math/rand"
	"slices"
	"strings"
	"testing"

	"chancel/api"
	"chancel/salt"
)

// primes: the first n of them.
func primes(n int) []int64 {
	var l []int64
	for x := int64(2); len(l) < n; x++ {
		if !slices.ContainsFunc(l, func(p int64) bool { return x%p == 0 }) {
			l = append(l, x)
		}
	}
	return l
}

// root: the first 32 bits behind the point of the root of p, of that power: the greatest x of which x to that power is at most p, in steps of 1/2^32.
func root(p int64, power int64) uint32 {
	whole := new(big.Int).Lsh(big.NewInt(p), uint(32*power))
	x := new(big.Int)
	for bit := 40; bit >= 0; bit-- {
		x.SetBit(x, bit, 1)
		if new(big.Int).Exp(x, big.NewInt(power), nil).Cmp(whole) > 0 {
			x.SetBit(x, bit, 0)
		}
	}
	return uint32(x.Uint64())
}

// roots: of each prime of l.
func roots(l []int64, power int64) []uint32 {
	var r []uint32
	for _, p := range l {
		r = append(r, root(p, power))
	}
	return r
}

var modelH, modelK = roots(primes(8), 2), roots(primes(64), 3)

// xors: x rotated right by each of by, exclusive or.
func xors(x uint32, by ...int) uint32 {
	sum := uint32(0)
	for _, n := range by {
		sum ^= bits.RotateLeft32(x, 32-n)
	}
	return sum
}

// choose: of each bit, what pick says of those of x, y and z.
func choose(x, y, z uint32, pick func(x, y, z uint32) uint32) uint32 {
	all := uint32(0)
	for i := range 32 {
		all |= pick(x>>i&1, y>>i&1, z>>i&1) << i
	}
	return all
}

// modelHash: SHA-256 as the chapter's words tell it, of a text that is followed by all that closes it at once.
func modelHash(text string) string {
	b := append([]byte(text), 0x80)
	for len(b)%64 != 56 {
		b = append(b, 0)
	}
	for i := 7; i >= 0; i-- {
		b = append(b, byte(uint64(len(text))*8>>(8*i)))
	}
	h := slices.Clone(modelH)
	for ; len(b) > 0; b = b[64:] {
		modelBlock(h, b[:64])
	}
	out := ""
	for _, x := range h {
		out += fmt.Sprintf("%08x", x)
	}
	return out
}

// modelBlock adds to h what comes of a block.
func modelBlock(h []uint32, b []byte) {
	var w []uint32
	for i := 0; i < 64; i += 4 {
		w = append(w, uint32(b[i])<<24+uint32(b[i+1])<<16+uint32(b[i+2])<<8+uint32(b[i+3]))
	}
	for t := 16; t < 64; t++ {
		s0 := xors(w[t-15], 7, 18) ^ w[t-15]>>3
		s1 := xors(w[t-2], 17, 19) ^ w[t-2]>>10
		w = append(w, w[t-16]+s0+w[t-7]+s1)
	}
	v := slices.Clone(h)
	for t := range 64 {
		chosen := choose(v[4], v[5], v[6], func(e, f, g uint32) uint32 { return []uint32{g, f}[e] })
		most := choose(v[0], v[1], v[2], func(a, b, c uint32) uint32 { return (a + b + c) / 2 })
		T := v[7] + xors(v[4], 6, 11, 25) + chosen + modelK[t] + w[t]
		U := xors(v[0], 2, 13, 22) + most
		v = slices.Insert(v[:7], 0, T+U)
		v[4] += T
	}
	for i := range h {
		h[i] += v[i]
	}
}

// modelSeal: as the chapter's words tell it.
func modelSeal(salt, password string) string {
	return modelHash(salt + "\x00" + password)
}

// modelRight: as the chapter's words tell it.
func modelRight(l []api.User) bool {
	names, wrong := map[string]int{}, 0
	for _, u := range l {
		names[u.Name]++
		if u.Name == "" || len(u.Name) > 20 || len(u.Salt) > 20 || len(u.Seal) != 64 || strings.Trim(u.Seal, "0123456789abcdef") != "" {
			wrong++
		}
	}
	return wrong == 0 && len(l) >= 1 && len(l) <= 8 && len(names) == len(l)
}

// modelFind: as the chapter's words tell it.
func modelFind(l []api.User, name, password string) (int, bool) {
	for i, u := range l {
		if u.Name == name {
			if modelSeal(u.Salt, password) == u.Seal {
				return i, true
			}
			return 0, false
		}
	}
	return 0, false
}

// right asks Right once, and whether it answers as the model, and leaves what was handed in.
func right(t *testing.T, l []api.User) {
	t.Helper()
	before := slices.Clone(l)
	if got, want := salt.Right(l), modelRight(l); got != want {
		t.Errorf("Right(%q): %v", l, got)
	}
	if !slices.Equal(l, before) {
		t.Errorf("Right(%q) has made of it %q", before, l)
	}
}

// find asks Find once, and whether it answers as the model, and leaves what was handed in.
func find(t *testing.T, l []api.User, name, password string) {
	t.Helper()
	before := slices.Clone(l)
	n, ok := salt.Find(l, name, password)
	if want, well := modelFind(l, name, password); n != want || ok != well {
		t.Errorf("Find(%q, %q, %q): %d, %v, not %d, %v", l, name, password, n, ok, want, well)
	}
	if !slices.Equal(l, before) {
		t.Errorf("Find(%q) has made of it %q", before, l)
	}
}

// drawnBytes: n bytes, drawn at random.
func drawnBytes(r *rand.Rand, n int) string {
	b := make([]byte, n)
	r.Read(b)
	return string(b)
}

// word: a short text of few letters, so that two are often one.
func word(r *rand.Rand) string {
	return strings.Repeat([]string{"a", "b", "\x00", "ä", "\xff"}[r.Intn(5)], r.Intn(3))
}

// drawnUsers: n users, drawn at random, some of them of one name, with passwords of word.
func drawnUsers(r *rand.Rand, n int) []api.User {
	var l []api.User
	for range n {
		u := api.User{Name: word(r), Salt: word(r)}
		u.Seal = modelSeal(u.Salt, word(r))
		l = append(l, u)
	}
	return l
}
