package ledger_test

import (
	"encoding/binary"
	"fmt"
	"math"
	"math/rand"
	"slices"
	"strings"
	"testing"

	"chancel/api"
	"chancel/ledger"
	"chancel/plate"
)

// model: a ledger told in the chapter's words: its ring, where it starts, the number there, and its records.
type model struct {
	d             *plate.Disk
	first, n      int
	start, number int
	records       []string
}

// full: s, and bytes 0 behind it to 128.
func full(s string) string {
	return s + strings.Repeat("\x00", 128-len(s))
}

// headOf: the plate of a head.
func headOf(number, length int) string {
	b := []byte{'H'}
	b = binary.BigEndian.AppendUint64(b, uint64(number))
	b = binary.BigEndian.AppendUint16(b, uint16(length))
	return full(string(b))
}

// bodiesOf: the body plates of a record.
func bodiesOf(record string) []string {
	var l []string
	for record != "" {
		n := min(127, len(record))
		l = append(l, full("B"+record[:n]))
		record = record[n:]
	}
	return l
}

// takes: how many plates records take.
func takes(records ...string) int {
	n := 0
	for _, r := range records {
		n += 1 + len(bodiesOf(r))
	}
	return n
}

func isRecord(s string) bool {
	return len(s) >= 1 && len(s) <= 65535
}

// openModel reads the ring as the chapter says; nil, if there is no such ledger.
func openModel(d *plate.Disk, first, n, start, number int) *model {
	if d == nil || !d.On() || first < 0 || n < 2 || start < 0 || start > n-1 || number < 0 || number > 1<<40 {
		return nil
	}
	// No sum of these wraps, as unsigned numbers.
	if uint64(first)+uint64(n) > uint64(d.Size()) {
		return nil
	}
	m := &model{d: d, first: first, n: n, start: start, number: number}
	for {
		r, ok := m.found()
		if !ok {
			return m
		}
		m.records = append(m.records, r)
	}
}

// found: the record at the next place.
func (m *model) found() (string, bool) {
	place, number := m.next()
	if number >= 1<<40 {
		return "", false
	}
	h := []byte(m.at(place))
	length := int(binary.BigEndian.Uint16(h[9:]))
	if h[0] != 'H' || binary.BigEndian.Uint64(h[1:]) != uint64(number) || length == 0 || slices.Max(h[11:]) != 0 {
		return "", false
	}
	k := (length + 126) / 127
	if 1+k > m.room() {
		return "", false
	}
	all := ""
	for i := range k {
		s := m.at(place + 1 + i)
		if s[0] != 'B' {
			return "", false
		}
		all += s[1:]
	}
	for _, b := range []byte(all[length:]) {
		if b != 0 {
			return "", false
		}
	}
	return all[:length], true
}

// at: what is on the plate of a place, which may have gone round.
func (m *model) at(place int) string {
	s, _ := m.d.Get(m.first + place%m.n)
	return s
}

func (m *model) next() (int, int) {
	return (m.start + takes(m.records...)) % m.n, m.number + len(m.records)
}

func (m *model) room() int {
	return m.n - takes(m.records...)
}

func (m *model) cut() {
	m.start, m.number = m.next()
	m.records = nil
}

// append lays on the model's own disk what the chapter says.
func (m *model) append(r string) int {
	place, number := m.next()
	switch {
	case !m.d.On():
		return 10
	case !isRecord(r):
		return 1
	case m.room() < takes(r) || number >= 1<<40:
		return 4
	}
	for i, s := range bodiesOf(r) {
		m.d.Lay(m.first+(place+1+i)%m.n, s)
	}
	m.d.Barrier()
	m.d.Lay(m.first+place, headOf(number, len(r)))
	m.d.Barrier()
	// A disk that went off in the midst takes nothing of what comes behind, and is off still.
	if !m.d.On() {
		return 10
	}
	m.records = append(m.records, r)
	return 0
}

// pair: a ledger, and what it ought to be, each with a disk of its own.
type pair struct {
	t *testing.T
	d *plate.Disk
	l *ledger.Ledger
	m *model
}

// made: a new disk of n plates.
func made(t *testing.T, n int) *plate.Disk {
	t.Helper()
	d, ok := plate.New(n)
	if !ok {
		t.Fatalf("no disk of %d", n)
	}
	return d
}

// newPair: a ledger on a new disk.
func newPair(t *testing.T, size, first, n, start, number int) *pair {
	t.Helper()
	p := &pair{t: t, d: made(t, size), m: &model{d: made(t, size)}}
	if !p.open(first, n, start, number) {
		t.Fatal("there is no such ledger", size, first, n, start, number)
	}
	return p
}

// open opens the ledger and the model anew; where there is none, those of before stay.
func (p *pair) open(first, n, start, number int) bool {
	p.t.Helper()
	l, all, ok := ledger.Open(p.d, first, n, start, number)
	m := openModel(p.m.d, first, n, start, number)
	if m == nil {
		if l != nil || len(all) != 0 || ok {
			p.t.Fatalf("Open(%d, %d, %d, %d): %v, %d, %v", first, n, start, number, l, len(all), ok)
		}
		return false
	}
	if l == nil || !ok || !slices.Equal(all, m.records) {
		p.t.Fatalf("Open(%d, %d, %d, %d): %q, %v, not %q", first, n, start, number, all, ok, m.records)
	}
	p.l, p.m = l, m
	p.same("Open")
	return true
}

// again opens with the same start and number.
func (p *pair) again() {
	p.t.Helper()
	if !p.open(p.m.first, p.m.n, p.m.start, p.m.number) {
		p.t.Fatal("it isn't opened again")
	}
}

func (p *pair) append(r string) int {
	p.t.Helper()
	got, want := p.l.Append(r), p.m.append(r)
	if got != want {
		p.t.Fatalf("Append of %d bytes: %d, not %d", len(r), got, want)
	}
	p.same(fmt.Sprintf("Append of %d bytes", len(r)))
	return got
}

func (p *pair) cut() {
	p.t.Helper()
	p.l.Cut()
	p.m.cut()
	p.same("Cut")
}

func (p *pair) limit(n int) {
	p.d.Limit(n)
	p.m.d.Limit(n)
}

func (p *pair) fall(pick ...int) {
	p.t.Helper()
	p.d.Fall(pick)
	p.m.d.Fall(pick)
	p.same("Fall")
}

// lay lays on both disks what no ledger laid.
func (p *pair) lay(i int, s string) {
	p.t.Helper()
	if p.d.Lay(i, s) != p.m.d.Lay(i, s) {
		p.t.Fatal("Lay", i)
	}
}

// same asks everything that the ledger and its disk tell.
func (p *pair) same(behind string) {
	p.t.Helper()
	place, number := p.l.Next()
	if wp, wn := p.m.next(); place != wp || number != wn || p.l.Room() != p.m.room() {
		p.t.Fatalf("behind %s: %d, %d, room %d, not %d, %d, room %d", behind, place, number, p.l.Room(), wp, wn, p.m.room())
	}
	if p.d.On() != p.m.d.On() || !slices.Equal(p.d.Loose(), p.m.d.Loose()) {
		p.t.Fatalf("behind %s: the disk is %v, loose %v, not %v, %v", behind, p.d.On(), p.d.Loose(), p.m.d.On(), p.m.d.Loose())
	}
	for i := range p.d.Size() {
		s, ok := p.d.Get(i)
		if want, well := p.m.d.Get(i); s != want || ok != well {
			p.t.Fatalf("behind %s: plate %d: %q, not %q", behind, i, s, want)
		}
	}
}

// ends: numbers about 0, about 2^40, and at the ends of what a number can be.
func ends() []int {
	return []int{math.MinInt, math.MinInt + 1, -1 << 40, -1 << 32, -2, -1, 0, 1, 2, 1 << 32, 1<<40 - 1, 1 << 40, 1<<40 + 1, math.MaxInt - 2, math.MaxInt - 1, math.MaxInt}
}

// text: a record of n bytes, none like the next one, among them such as kinds and wanting bytes are.
func text(n, salt int) string {
	b := make([]byte, n)
	for i := range b {
		b[i] = "HB\x00\xffxyz"[(i*i+i/7+salt)%7]
	}
	return string(b)
}

// drawnText: a record of a length about the edges, few too long for a small ring.
func drawnText(r *rand.Rand) string {
	l := []int{0, 1, 2, 60, 126, 127, 128, 129, 253, 254, 255, 256, 381, 382, 600}
	return text(l[r.Intn(len(l))], r.Intn(7))
}

// picks: of n loose plates.
func picks(r *rand.Rand, n int) []int {
	l := make([]int, r.Intn(n+2))
	for k := range l {
		l[k] = r.Intn(4) - 1
	}
	return l
}

// drawn does one call, drawn at random, with the ledger and the model.
func (p *pair) drawn(r *rand.Rand) {
	p.t.Helper()
	switch x := r.Intn(40); {
	case x < 22:
		p.append(drawnText(r))
	case x < 25:
		p.cut()
	case x < 29:
		p.limit(r.Intn(9) - 1)
	case x < 31:
		p.fall(picks(r, 7)...)
		p.again()
	case x < 34 && p.d.On():
		p.again()
	case x < 35:
		p.append(text([]int{0, 65535, 65536, 70000}[r.Intn(4)], 1))
	case x < 36:
		p.open(r.Intn(4)-1, r.Intn(12), r.Intn(12)-1, p.m.number+r.Intn(3)-1)
	case x < 37:
		p.lay(r.Intn(p.d.Size()), full("B"+text(r.Intn(128), 2)))
	default:
		p.same("calls")
	}
	// Off for long is dull.
	if !p.d.On() && r.Intn(3) == 0 {
		p.fall(picks(r, 7)...)
		p.again()
	}
}

// status tells where a call isn't answered as it ought to be.
func status(t *testing.T, got, want int) {
	t.Helper()
	if got != want {
		t.Fatalf("status %d, not %d", got, want)
	}
}

// room tells where there is more or less room than there ought to be.
func room(t *testing.T, l *ledger.Ledger, want int) {
	t.Helper()
	if got := l.Room(); got != want {
		t.Fatalf("room %d, not %d", got, want)
	}
}

// opened: a ledger, and its records.
func opened(t *testing.T, d *plate.Disk, first, n, start, number int) (*ledger.Ledger, []string) {
	t.Helper()
	l, all, ok := ledger.Open(d, first, n, start, number)
	if l == nil || !ok {
		t.Fatalf("Open(%d, %d, %d, %d): %v, %v", first, n, start, number, l, ok)
	}
	return l, all
}

// filled: a disk on whose plates, from first on, all those lie firm.
func filled(t *testing.T, size, first int, plates ...string) *plate.Disk {
	t.Helper()
	d := made(t, size)
	for i, s := range plates {
		if !d.Lay(first+i, s) {
			t.Fatal("Lay", first+i)
		}
	}
	if !d.Barrier() {
		t.Fatal("Barrier")
	}
	return d
}

const ok = api.Ok
