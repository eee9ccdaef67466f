package image_test

import (
	"encoding/binary"
	"math"
	"slices"
	"strings"
	"testing"

	"chancel/acts"
	"chancel/api"
	"chancel/image"
	"chancel/plate"
	"chancel/salt"
	"chancel/state"
	"chancel/words"
)

const ok = api.Ok

// model: an image told in the chapter's words: its disk, what the title tells, the records behind that, and a world that knows no disk.
type model struct {
	d                   *plate.Disk
	a                   int
	area, start, number int
	records             []string
	w                   *acts.World
}

// filled: s, and bytes 0 behind it to 128.
func filled(s string) string {
	return s + strings.Repeat("\x00", 128-len(s))
}

// eight: a number in eight bytes.
func eight(n int) string {
	return string(binary.BigEndian.AppendUint64(nil, uint64(n)))
}

// two: a number in two bytes.
func two(n int) string {
	return string(binary.BigEndian.AppendUint16(nil, uint16(n)))
}

// number: of eight bytes.
func number(s string) int {
	return int(binary.BigEndian.Uint64([]byte(s)))
}

// titleOf: the title's bytes.
func titleOf(area, bytes, start, number int) string {
	return filled("T" + string([]byte{byte(area)}) + eight(bytes) + eight(start) + eight(number))
}

// areaOf: how many plates an area of a right config has.
func areaOf(c api.Config) int {
	a := 0
	for left := state.Most(c); left > 0; left -= 128 {
		a++
	}
	return a
}

// bodiesOf: the plates that want be laid for a record, but for its head.
func bodiesOf(record string) []string {
	var l []string
	for record != "" {
		n := min(127, len(record))
		l = append(l, filled("B"+record[:n]))
		record = record[n:]
	}
	return l
}

func headOf(number, length int) string {
	return filled("H" + eight(number) + two(length))
}

// takes: how many plates records take.
func takes(records ...string) int {
	n := 0
	for _, r := range records {
		n += 1 + len(bodiesOf(r))
	}
	return n
}

// tickOf: the record of a Tick.
func tickOf(n int) string {
	return "t" + eight(n)
}

// callOf: the record of a call; "", if it has none.
func callOf(c api.Call, draw string) string {
	s, ok := words.Call(c)
	if !ok || len(draw) > 65535 || 3+len(draw)+len(s) > 2000 {
		return ""
	}
	return "d" + two(len(draw)) + draw + s
}

// openModel: the model of what d holds.
func openModel(c api.Config, d *plate.Disk) (*model, int) {
	if !state.May(c) {
		return nil, 1
	}
	if d == nil || !d.On() {
		return nil, 10
	}
	m := &model{d: d, a: areaOf(c)}
	if d.Size() < 61+2*m.a {
		return nil, 4
	}
	if !m.read(c) {
		return nil, 1
	}
	return m, 0
}

// read: what the disk holds, if it holds what the chapter says.
func (m *model) read(c api.Config) bool {
	t, _ := m.d.Get(0)
	if t == filled("") {
		m.w, _ = acts.New(c)
		return m.readRing()
	}
	bytes := number(t[2:10])
	m.area, m.start, m.number = int(t[1]), number(t[10:18]), number(t[18:26])
	if t[0] != 'T' || t[1] > 1 || t[26:] != filled("")[26:] || bytes < 0 || bytes > 128*m.a {
		return false
	}
	all := ""
	for i := range m.a {
		s, _ := m.d.Get(1 + m.area*m.a + i)
		all += s
	}
	s, ok := state.Read(all[:bytes])
	if !ok || !state.Right(c, s) {
		return false
	}
	m.w, _ = acts.Load(c, s)
	return m.start >= 0 && m.start <= 59 && m.number >= 0 && m.number <= 1<<40 && m.readRing()
}

// readRing does all records; false, if one is none.
func (m *model) readRing() bool {
	for {
		r := m.found()
		if r == "" {
			return true
		}
		if !m.redo(r) {
			return false
		}
		m.records = append(m.records, r)
	}
}

// ring: what is on the plate of a place, which may have gone round.
func (m *model) ring(place int) int {
	return 1 + 2*m.a + place%60
}

func (m *model) next() (int, int) {
	return (m.start + takes(m.records...)) % 60, m.number + len(m.records)
}

// found: the record at the next place; "", if there is none.
func (m *model) found() string {
	place, number := m.next()
	h, _ := m.d.Get(m.ring(place))
	length := int(h[9])<<8 | int(h[10])
	k := (length + 126) / 127
	if number >= 1<<40 || h != headOf(number, length) || 1+k > 60-takes(m.records...) {
		return ""
	}
	all := ""
	for i := range k {
		s, _ := m.d.Get(m.ring(place + 1 + i))
		if s[0] != 'B' {
			return ""
		}
		all += s[1:]
	}
	if strings.Trim(all[length:], "\x00") != "" {
		return ""
	}
	return all[:length]
}

// redo does what a record tells; false, if it is none.
func (m *model) redo(r string) bool {
	if r[0] == 't' && len(r) == 9 {
		m.w.Tick(number(r[1:]))
		return true
	}
	if r[0] != 'd' || len(r) < 3 {
		return false
	}
	n := 3 + int(r[1])<<8 + int(r[2])
	if len(r) < n {
		return false
	}
	c, ok := words.Ask(r[n:])
	if !ok {
		return false
	}
	m.w.Do(c, r[3:n])
	return true
}

// append lays on the model's disk what the chapter says.
func (m *model) append(r string) int {
	place, number := m.next()
	if !m.d.On() {
		return 10
	}
	if 60-takes(m.records...) < takes(r) || number >= 1<<40 {
		return 4
	}
	for i, s := range bodiesOf(r) {
		m.d.Lay(m.ring(place+1+i), s)
	}
	m.d.Barrier()
	m.d.Lay(m.ring(place), headOf(number, len(r)))
	m.d.Barrier()
	// A disk that went off in the midst takes nothing of what comes behind, and is off still.
	if !m.d.On() {
		return 10
	}
	m.records = append(m.records, r)
	return 0
}

// keep: append, behind a snapshot, if there is no room.
func (m *model) keep(r string) int {
	s := m.append(r)
	if s == 4 {
		m.snapshot()
		s = m.append(r)
	}
	return s
}

func (m *model) do(c api.Call, draw string) (api.Answer, bool) {
	r := callOf(c, draw)
	if r == "" {
		return api.Answer{Status: 1}, false
	}
	if s := m.keep(r); s != 0 {
		return api.Answer{Status: s}, false
	}
	a, _ := m.w.Do(c, draw)
	return a, true
}

func (m *model) tick(n int) bool {
	if m.keep(tickOf(max(n, 0))) != 0 {
		return false
	}
	m.w.Tick(n)
	return true
}

func (m *model) snapshot() bool {
	s, ok := state.Write(m.w.State())
	if !m.d.On() || !ok || len(s) > 128*m.a {
		return false
	}
	other := 1 - m.area
	for i := 0; i*128 < len(s); i++ {
		m.d.Lay(1+other*m.a+i, s[i*128:min(i*128+128, len(s))])
	}
	m.d.Barrier()
	place, number := m.next()
	m.d.Lay(0, titleOf(other, len(s), place, number))
	m.d.Barrier()
	if !m.d.On() {
		return false
	}
	m.area, m.start, m.number, m.records = other, place, number, nil
	return true
}

// pair: an image, and what it ought to be, each with a disk of its own.
type pair struct {
	t *testing.T
	c api.Config
	d *plate.Disk
	i *image.Image
	m *model
}

// made: a new disk of n plates.
func made(t *testing.T, n int) *plate.Disk {
	t.Helper()
	d, ok := plate.New(n)
	if !ok {
		t.Fatalf("no disk of %d", n)
	}
	return d
}

// disk: a new disk of just as many plates as c wants.
func disk(t *testing.T, c api.Config) *plate.Disk {
	t.Helper()
	return made(t, 61+2*areaOf(c))
}

// newPair: an image on a new disk.
func newPair(t *testing.T, c api.Config) *pair {
	t.Helper()
	p := &pair{t: t, c: c, d: disk(t, c), m: &model{d: disk(t, c)}}
	p.opens(ok)
	return p
}

// opens opens the image and the model anew, with a status; where there is none, those of before stay.
func (p *pair) opens(want int) {
	p.t.Helper()
	i, got := image.Open(p.c, p.d)
	m, s := openModel(p.c, p.m.d)
	if got != s || s != want || (i != nil) != (s == ok) {
		p.t.Fatalf("Open: %v, %d, not %d, asked for %d", i, got, s, want)
	}
	if s == ok {
		p.i, p.m = i, m
		p.same("Open")
	}
}

func (p *pair) do(c api.Call, draw string) (api.Answer, bool) {
	p.t.Helper()
	got, done := p.i.Do(c, draw)
	want, did := p.m.do(c, draw)
	if !alike(got, want) || done != did {
		p.t.Fatalf("Do %+v: %+v, %v, not %+v, %v", c, got, done, want, did)
	}
	p.same("Do")
	return got, done
}

// does does a call that must be done, with a status.
func (p *pair) does(c api.Call, draw string, status int) api.Answer {
	p.t.Helper()
	a, done := p.do(c, draw)
	if a.Status != status || !done {
		p.t.Fatalf("Do %+v: %+v, %v, not %d", c, a, done, status)
	}
	return a
}

// refuses does a call that must not be done.
func (p *pair) refuses(c api.Call, draw string, status int) {
	p.t.Helper()
	if a, done := p.do(c, draw); !alike(a, api.Answer{Status: status}) || done {
		p.t.Fatalf("Do %+v: %+v, %v, not %d", c, a, done, status)
	}
}

func (p *pair) tick(n int, want bool) {
	p.t.Helper()
	got, well := p.i.Tick(n), p.m.tick(n)
	if got != well || well != want {
		p.t.Fatalf("Tick %d: %v, not %v, asked for %v", n, got, well, want)
	}
	p.same("Tick")
}

func (p *pair) snapshot(want bool) {
	p.t.Helper()
	got, well := p.i.Snapshot(), p.m.snapshot()
	if got != well || well != want {
		p.t.Fatalf("Snapshot: %v, not %v, asked for %v", got, well, want)
	}
	p.same("Snapshot")
}

func (p *pair) limit(n int) {
	p.d.Limit(n)
	p.m.d.Limit(n)
}

// off lets the disk go off.
func (p *pair) off() {
	p.limit(0)
	p.d.Barrier()
	p.m.d.Barrier()
}

// fall lets both disks fall, and opens anew.
func (p *pair) fall(pick ...int) {
	p.t.Helper()
	p.d.Fall(pick)
	p.m.d.Fall(pick)
	p.opens(ok)
}

// lay lays on both disks what no image laid, and makes it firm.
func (p *pair) lay(i int, s string) {
	p.t.Helper()
	if !p.d.Lay(i, s) || !p.m.d.Lay(i, s) || !p.d.Barrier() || !p.m.d.Barrier() {
		p.t.Fatal("Lay", i)
	}
}

// laySnapshot lays a state's bytes on an area, whether or not it has room there, and a title that tells them.
func (p *pair) laySnapshot(area int, s string, start, number int) {
	p.t.Helper()
	for i := 0; i*128 < len(s); i++ {
		p.lay(1+area*areaOf(p.c)+i, s[i*128:min(i*128+128, len(s))])
	}
	p.lay(0, titleOf(area, len(s), start, number))
}

// layRecord lays a record at a place of the ring, and tells the place behind it.
func (p *pair) layRecord(place, number int, r string) int {
	p.t.Helper()
	ring := 1 + 2*areaOf(p.c)
	p.lay(ring+place%60, headOf(number, len(r)))
	for i, s := range bodiesOf(r) {
		p.lay(ring+(place+1+i)%60, s)
	}
	return (place + takes(r)) % 60
}

// room: how many plates of the ring are free.
func (p *pair) room() int {
	return 60 - takes(p.m.records...)
}

// same asks everything that the image and its disk tell.
func (p *pair) same(behind string) {
	p.t.Helper()
	if got, want := bytesOf(p.t, p.i.State()), bytesOf(p.t, p.m.w.State()); got != want {
		p.t.Fatalf("behind %s: state %q, not %q", behind, got, want)
	}
	if p.d.On() != p.m.d.On() || !slices.Equal(p.d.Loose(), p.m.d.Loose()) {
		p.t.Fatalf("behind %s: the disk is %v, loose %v, not %v, %v", behind, p.d.On(), p.d.Loose(), p.m.d.On(), p.m.d.Loose())
	}
	for i := range p.d.Size() {
		s, ok := p.d.Get(i)
		if want, well := p.m.d.Get(i); s != want || ok != well {
			p.t.Fatalf("behind %s: plate %d: %q, not %q", behind, i, s, want)
		}
	}
}

// alike: are two answers the same, whether an empty list is nil or not?
func alike(a, b api.Answer) bool {
	x, ok := words.Answer(a)
	y, well := words.Answer(b)
	return ok && well && x == y
}

// bytesOf: a state's bytes, by which states are told apart.
func bytesOf(t *testing.T, s api.State) string {
	t.Helper()
	b, ok := state.Write(s)
	if !ok {
		t.Fatal("a state without bytes")
	}
	return b
}

// least: a config with the smallest disk: one user, ann, and one of everything.
func least() api.Config {
	return api.Config{
		Users:  []api.User{{Name: "ann", Seal: salt.Seal("", "p")}},
		Labels: []api.Label{{Parent: -1, Readers: []int{0}, Writers: []int{0}}},
		Quota:  1, Segs: 1, Docs: 1, Depth: 1, Seats: 1, Audit: 1, Ttl: 0,
	}
}

// config: ann (0) and bob (1); ann edits labels 0 and 1, bob 0 alone.
func config() api.Config {
	return api.Config{
		Users: []api.User{{Name: "ann", Salt: "s", Seal: salt.Seal("s", "p")}, {Name: "bob", Seal: salt.Seal("", "q")}},
		Labels: []api.Label{
			{Parent: -1, Owner: 0, Readers: []int{0, 1}, Writers: []int{0, 1}},
			{Parent: 0, Owner: 0, Readers: []int{0}, Writers: []int{0}},
		},
		Quota: 30, Segs: 4, Docs: 2, Depth: 2, Seats: 2, Audit: 100, Ttl: 50,
	}
}

// login: ann's.
func login() api.Call {
	return api.Call{Ask: api.Login{User: "ann", Password: "p"}}
}

// call: of ann's seat, whose token is t.
func call(seq int, ask any) api.Call {
	return api.Call{Token: "t", Seq: seq, Ask: ask}
}

// wrongConfigs: of each kind one that isn't right.
func wrongConfigs() []api.Config {
	var l []api.Config
	for _, bend := range []func(*api.Config){
		func(c *api.Config) { c.Users = nil },
		func(c *api.Config) { c.Users[0].Name = "" },
		func(c *api.Config) { c.Users[1].Name = "ann" },
		func(c *api.Config) { c.Users[1].Seal = "x" },
		func(c *api.Config) { c.Labels = nil },
		func(c *api.Config) { c.Labels[0].Parent = 0 },
		func(c *api.Config) { c.Labels[1].Owner = 2 },
		func(c *api.Config) { c.Labels[1].Readers = []int{1, 0} },
		func(c *api.Config) { c.Quota = 0 },
		func(c *api.Config) { c.Quota = api.MaxQuota + 1 },
		func(c *api.Config) { c.Quota = math.MaxInt },
		func(c *api.Config) { c.Segs = 0 },
		func(c *api.Config) { c.Segs = api.MaxSegs + 1 },
		func(c *api.Config) { c.Docs = math.MinInt },
		func(c *api.Config) { c.Docs = api.MaxDocs + 1 },
		func(c *api.Config) { c.Depth = -1 },
		func(c *api.Config) { c.Depth = api.MaxDepth + 1 },
		func(c *api.Config) { c.Seats = 0 },
		func(c *api.Config) { c.Seats = api.MaxSeats + 1 },
		func(c *api.Config) { c.Audit = 0 },
		func(c *api.Config) { c.Audit = api.MaxAudit + 1 },
		func(c *api.Config) { c.Ttl = -1 },
		func(c *api.Config) { c.Ttl = api.MaxTtl + 1 },
		func(c *api.Config) { *c = api.Config{} },
	} {
		c := config()
		bend(&c)
		l = append(l, c)
	}
	return l
}

// ends: numbers about 0, about 2^40, and at the ends of what a number can be.
func ends() []int {
	return []int{math.MinInt, math.MinInt + 1, -1 << 40, -1 << 32, -2, -1, 0, 1, 2, 1 << 32, 1<<40 - 1, 1 << 40, 1<<40 + 1, math.MaxInt - 1, math.MaxInt}
}
