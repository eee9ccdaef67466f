package view_test

import (
	"math"
	"slices"
	"testing"

	"chancel/api"
	"chancel/sheet"
	"chancel/view"
)

// cell: one letter of what is seen: of which segment (by its place in the list), and, if that is open, the letter.
type cell struct {
	seg    int
	letter string
}

// cells: what is seen of l, letter by letter.
func cells(l []api.Seg, open func(int) bool) []cell {
	var cs []cell
	for i, p := range l {
		if !open(p.Label) {
			cs = append(cs, cell{seg: i})
			continue
		}
		for _, r := range p.Text {
			cs = append(cs, cell{i, string(r)})
		}
	}
	return cs
}

// modelRuns: Runs as the chapter's words tell it, each letter held against the range.
func modelRuns(l []api.Seg, open func(int) bool, from, n int) []api.Run {
	var runs []api.Run
	from, n = max(from, 0), min(n, 200)
	last := -1
	for at, c := range cells(l, open) {
		if at < from || n < 1 {
			continue
		}
		n--
		if c.seg != last {
			p := l[c.seg]
			runs = append(runs, api.Run{Id: p.Id, Label: p.Label, Open: open(p.Label)})
			last = c.seg
		}
		runs[len(runs)-1].Text += c.letter
	}
	return runs
}

// modelLook: Look as the chapter's words tell it.
func modelLook(l []api.Seg, open func(int) bool) []api.Piece {
	var ps []api.Piece
	for _, p := range l {
		n := 0
		if open(p.Label) {
			n = len([]rune(p.Text))
		}
		ps = append(ps, api.Piece{Id: p.Id, Label: p.Label, N: n, Open: open(p.Label)})
	}
	return ps
}

// bounds: where the piece of that number starts and ends.
func bounds(l []api.Piece, i int) (int, int) {
	start := 0
	for _, p := range l[:i] {
		if p.Open {
			start += p.N
		} else {
			start++
		}
	}
	if l[i].Open {
		return start, start + l[i].N
	}
	return start, start + 1
}

// modelWidth: the end of the last piece.
func modelWidth(l []api.Piece) int {
	if len(l) == 0 {
		return 0
	}
	_, end := bounds(l, len(l)-1)
	return end
}

// modelAddress: Address as the chapter's words tell it.
func modelAddress(l []api.Piece, offset int) (int, int, bool) {
	if offset < 0 {
		offset = 0
	}
	if offset > modelWidth(l) {
		offset = modelWidth(l)
	}
	for i, p := range l {
		if start, end := bounds(l, i); end >= offset {
			return p.Id, offset - start, true
		}
	}
	return 0, 0, false
}

// modelOffset: Offset as the chapter's words tell it.
func modelOffset(l []api.Piece, id, at int) (int, bool) {
	i := slices.IndexFunc(l, func(p api.Piece) bool { return p.Id == id })
	if i < 0 {
		return 0, false
	}
	start, end := bounds(l, i)
	if at < 0 {
		return start, true
	}
	if at > end-start {
		return end, true
	}
	return start + at, true
}

// edges: numbers at the ends of their range, and about 0 and the limits.
func edges() []int {
	return []int{math.MinInt, math.MinInt + 1, -2, -1, 0, 1, 2, 3, 5, 199, 200, 201, 1 << 40, 1<<40 + 1, math.MaxInt - 200, math.MaxInt - 1, math.MaxInt}
}

// must: the sheet of plain values that are right.
func must(t *testing.T, l []api.Seg) sheet.Sheet {
	t.Helper()
	s, ok := sheet.Load(false, l)
	if !ok {
		t.Fatalf("sheet.Load(%v): false", l)
	}
	return s
}

// is asks of pieces all that can be asked with that offset, and that Id and place.
func is(t *testing.T, l []api.Piece, offset, id, at int) {
	t.Helper()
	if got := view.Width(l); got != modelWidth(l) {
		t.Fatalf("Width(%v): %d, not %d", l, got, modelWidth(l))
	}
	wantId, wantAt, want := modelAddress(l, offset)
	if gotId, gotAt, ok := view.Address(l, offset); gotId != wantId || gotAt != wantAt || ok != want {
		t.Fatalf("Address(%v, %d): %d, %d, %v, not %d, %d, %v", l, offset, gotId, gotAt, ok, wantId, wantAt, want)
	}
	wantN, want := modelOffset(l, id, at)
	if got, ok := view.Offset(l, id, at); got != wantN || ok != want {
		t.Fatalf("Offset(%v, %d, %d): %d, %v, not %d, %v", l, id, at, got, ok, wantN, want)
	}
}

// looks asks for the pieces of a sheet of l.
func looks(t *testing.T, l []api.Seg, open func(int) bool) []api.Piece {
	t.Helper()
	got, want := view.Look(must(t, l), open), modelLook(l, open)
	if !slices.Equal(got, want) {
		t.Fatalf("Look of %v: %v, not %v", l, got, want)
	}
	return got
}

// shows asks for the runs of a sheet of l.
func shows(t *testing.T, l []api.Seg, open func(int) bool, from, n int) []api.Run {
	t.Helper()
	got, want := view.Runs(must(t, l), open, from, n), modelRuns(l, open, from, n)
	if !slices.Equal(got, want) {
		t.Fatalf("Runs(%d, %d) of %v: %v, not %v", from, n, l, got, want)
	}
	return got
}

// back: each offset of l, by its address, and that one's offset.
func back(t *testing.T, l []api.Piece, offset int) {
	t.Helper()
	id, at, ok := view.Address(l, offset)
	if !ok {
		t.Fatalf("Address(%v, %d): false", l, offset)
	}
	if got, ok := view.Offset(l, id, at); got != offset || !ok {
		t.Fatalf("of %v: Address of %d: %d, %d; Offset of that: %d, %v", l, offset, id, at, got, ok)
	}
}
