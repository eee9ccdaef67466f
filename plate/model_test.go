package plate_test

import (
	"fmt"
	"math"
	"math/big"
	"math/rand"
	"slices"
	"strings"
	"testing"

	"chancel/plate"
)

// laying: that s came on a plate.
type laying struct {
	plate int
	s     string
}

// model: a disk told in the chapter's words: one list of all that was laid since the last barrier, and what is firm where it isn't all 0.
type model struct {
	n       int
	firm    map[int]string
	layings []laying
	on      bool
	limited bool
	steps   *big.Int
}

// blank: a plate on which nothing ever was.
var blank = strings.Repeat("\x00", 128)

// full: s, and bytes 0 behind it to 128.
func full(s string) string {
	for len(s) < 128 {
		s += "\x00"
	}
	return s
}

func newModel(n int) *model {
	return &model{n: n, firm: map[int]string{}, on: true}
}

// laid: what was laid on plate i since the last barrier, in order.
func (m *model) laid(i int) []string {
	var l []string
	for _, x := range m.layings {
		if x.plate == i {
			l = append(l, x.s)
		}
	}
	return l
}

// sure: what is firm on plate i.
func (m *model) sure(i int) string {
	if s, ok := m.firm[i]; ok {
		return s
	}
	return blank
}

func (m *model) there(i int) bool {
	return 0 <= i && i <= m.n-1
}

func (m *model) get(i int) (string, bool) {
	if !m.on || !m.there(i) {
		return "", false
	}
	return append([]string{m.sure(i)}, m.laid(i)...)[len(m.laid(i))], true
}

// step tells whether one is left, and takes it.
func (m *model) step() bool {
	if !m.limited {
		return true
	}
	if m.steps.Sign() == 0 {
		m.on = false
		return false
	}
	m.steps.Sub(m.steps, big.NewInt(1))
	return true
}

func (m *model) lay(i int, s string) bool {
	if !m.on {
		return false
	}
	if !m.there(i) || len(s) >= 129 {
		return false
	}
	if !m.step() {
		return false
	}
	m.layings = append(m.layings, laying{i, full(s)})
	return true
}

func (m *model) barrier() bool {
	if !m.on || !m.step() {
		return false
	}
	// One after the other, so that the last one of each plate stays.
	for _, x := range m.layings {
		m.firm[x.plate] = x.s
	}
	m.layings = nil
	return true
}

func (m *model) limit(n int) {
	m.limited, m.steps = n >= 0, big.NewInt(int64(n))
}

func (m *model) loose() []int {
	var l []int
	for i := range m.n {
		if len(m.laid(i)) > 0 {
			l = append(l, i)
		}
	}
	return l
}

func (m *model) fall(pick []int) {
	for k, i := range m.loose() {
		may := append([]string{m.sure(i)}, m.laid(i)...)
		at := big.NewInt(0)
		if k < len(pick) {
			at.Mod(big.NewInt(int64(pick[k])), big.NewInt(int64(len(may))))
		}
		m.firm[i] = may[at.Int64()]
	}
	m.layings, m.on, m.limited = nil, true, false
}

// pair: a disk, and what it ought to be.
type pair struct {
	t *testing.T
	d *plate.Disk
	m *model
}

func newPair(t *testing.T, n int) pair {
	t.Helper()
	return pair{t, made(t, n), newModel(n)}
}

// made: a new disk of n plates.
func made(t *testing.T, n int) *plate.Disk {
	t.Helper()
	d, ok := plate.New(n)
	if d == nil || !ok {
		t.Fatalf("New(%d): %v, %v", n, d, ok)
	}
	return d
}

func (p pair) get(i int) {
	p.t.Helper()
	s, ok := p.d.Get(i)
	if want, well := p.m.get(i); s != want || ok != well {
		p.t.Fatalf("Get(%d): %q, %v, not %q, %v", i, s, ok, want, well)
	}
}

func (p pair) lay(i int, s string) bool {
	p.t.Helper()
	got, want := p.d.Lay(i, s), p.m.lay(i, s)
	if got != want {
		p.t.Fatalf("Lay(%d, %q): %v", i, s, got)
	}
	return got
}

func (p pair) barrier() bool {
	p.t.Helper()
	got, want := p.d.Barrier(), p.m.barrier()
	if got != want {
		p.t.Fatalf("Barrier(): %v", got)
	}
	return got
}

func (p pair) limit(n int) {
	p.d.Limit(n)
	p.m.limit(n)
}

// fall hands in a list with room behind it, and asks whether it is as it was.
func (p pair) fall(pick []int) {
	p.t.Helper()
	room := append(slices.Clone(pick), 77, 78, 79)
	p.d.Fall(room[:len(pick)])
	p.m.fall(pick)
	if want := append(slices.Clone(pick), 77, 78, 79); !slices.Equal(room, want) {
		p.t.Fatalf("Fall(%v) has made of its list %v", pick, room)
	}
	p.same(fmt.Sprintf("Fall(%v)", pick))
}

// same asks everything that the disk tells.
func (p pair) same(behind string) {
	p.t.Helper()
	if p.d.Size() != p.m.n || p.d.On() != p.m.on || !slices.Equal(p.d.Loose(), p.m.loose()) {
		p.t.Fatalf("behind %s: %d, %v, %v, not %d, %v, %v", behind, p.d.Size(), p.d.On(), p.d.Loose(), p.m.n, p.m.on, p.m.loose())
	}
	for i := -1; i <= p.m.n; i++ {
		p.get(i)
	}
}

// ends: numbers about 0, and at the ends of what a number can be.
func ends() []int {
	return []int{math.MinInt, math.MinInt + 1, math.MinInt + 2, -1 << 40, -1 << 32, -3, -2, -1, 0, 1, 2, 3, 1 << 32, 1 << 40, math.MaxInt - 2, math.MaxInt - 1, math.MaxInt}
}

// content: of few letters and lengths, some too long.
func content(r *rand.Rand) string {
	n := []int{0, 1, 2, 5, 127, 128, 128, 129, 300}[r.Intn(9)]
	return strings.Repeat(string([]byte{[]byte{0, 'a', 'b', 0xff}[r.Intn(4)]}), n)
}

// picks: up to n numbers, most of them small.
func picks(r *rand.Rand, n int) []int {
	l := make([]int, r.Intn(n+1))
	for k := range l {
		l[k] = r.Intn(15) - 6
		if r.Intn(10) == 0 {
			l[k] = ends()[r.Intn(len(ends()))]
		}
	}
	return l
}

// drawn does one call, drawn at random, with the disk and the model.
func (p pair) drawn(r *rand.Rand) {
	p.t.Helper()
	i := r.Intn(p.m.n+2) - 1
	switch x := r.Intn(40); {
	case x < 24:
		p.lay(i, content(r))
	case x < 28:
		p.barrier()
	case x < 31:
		p.limit(r.Intn(14) - 2)
	case x < 33:
		p.fall(picks(r, p.m.n+2))
	case x < 34:
		p.same("calls")
	case x < 35:
		far := ends()[r.Intn(len(ends()))]
		p.get(far)
		p.lay(far, "f")
	default:
		p.get(i)
	}
	// Off for long is dull.
	if !p.m.on && r.Intn(5) == 0 {
		p.fall(picks(r, p.m.n+2))
	}
}
