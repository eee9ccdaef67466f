package image

import (
	"strings"

	"chancel/api"
	"chancel/octets"
	"chancel/state"
)

const (
	titlePlate = 0
	titleKind  = 'T'
)

// title: what plate 0 tells: where the last snapshot is, and where the records begin that came behind it.
type title struct {
	laid          bool // false: there was no snapshot yet
	area          int
	bytes         int // how many the snapshot has
	start, number int // of the ring, and of the record that begins there
}

// areaPlates: how many plates an area has, of a right config.
func areaPlates(c api.Config) int {
	return platesOf(state.Most(c))
}

// platesOf: how many plates so many bytes want.
func platesOf(bytes int) int {
	return (bytes + api.Plate - 1) / api.Plate
}

// areaAt: the first plate of an area; of the one behind the last, that of the ring.
func (m *Image) areaAt(area int) int {
	return titlePlate + 1 + area*m.area
}

// title: what the title tells; false, if it is none, or the disk is off.
func (m *Image) title() (title, bool) {
	s, ok := m.d.Get(titlePlate)
	if !ok {
		return title{}, false
	}
	if isBlank(s) {
		return title{}, true
	}
	r := octets.Of(s)
	return octets.Whole(&r, func() title { return takeTitle(&r) })
}

// takeTitle: a title that was laid.
func takeTitle(r *octets.Reader) title {
	kind := r.TakeByte()
	t := title{laid: true, area: r.TakeByte(), bytes: r.TakeNumber(), start: r.TakeNumber(), number: r.TakeNumber()}
	if kind != titleKind || t.area >= areas || !isBlank(r.TakeRest()) {
		r.GiveUp()
	}
	return t
}

// layTitle makes t the title; false, if the disk goes off in that.
func (m *Image) layTitle(t title) bool {
	w := &octets.Writer{}
	w.PutByte(titleKind)
	w.PutByte(t.area)
	w.PutNumbers(t.bytes, t.start, t.number)
	s, _ := w.Written()
	return m.d.Lay(titlePlate, s) && m.d.Barrier()
}

// layState makes the bytes of a state firm on the area that t tells; false, if the disk goes off in that.
func (m *Image) layState(t title, s string) bool {
	for i := range platesOf(len(s)) {
		from := i * api.Plate
		if !m.d.Lay(m.areaAt(t.area)+i, s[from:min(from+api.Plate, len(s))]) {
			return false
		}
	}
	// A title may be there behind a fall as soon as it is laid: what it tells of has to be firm ahead of that.
	return m.d.Barrier()
}

// readState: the state whose bytes t tells; false, if they have no room in an area, or are those of none.
func (m *Image) readState(t title) (api.State, bool) {
	if t.bytes < 0 || t.bytes > m.area*api.Plate {
		return api.State{}, false
	}
	var b strings.Builder
	for i := range platesOf(t.bytes) {
		// The disk is on, and has all plates of its areas.
		s, _ := m.d.Get(m.areaAt(t.area) + i)
		b.WriteString(s)
	}
	return state.Read(b.String()[:t.bytes])
}

// isBlank: are all bytes of s 0?
func isBlank(s string) bool {
	return strings.Trim(s, "\x00") == ""
}
