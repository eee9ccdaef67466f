package audit_test

import (
	"math"
	"math/rand"
	"reflect"
	"slices"
	"testing"

	"chancel/api"
	"chancel/audit"
)

// edges: numbers that may be handed in, at the ends of their kind and beside what the chapter names.
func edges() []int {
	return []int{math.MinInt, math.MinInt + 1, -2, -1, 0, 1, 2, 3, 9, 10, 11, 12, 99, 100, 101, math.MaxInt - 1, math.MaxInt}
}

// deep: a copy of l that shares nothing with it, with empty lists where there are none.
func deep(l []api.Entry) []api.Entry {
	c := []api.Entry{}
	for _, e := range l {
		e.Segs = append([]int{}, e.Segs...)
		e.Labels = append([]int{}, e.Labels...)
		c = append(c, e)
	}
	return c
}

// same: are both the same entries? An empty list may be nil or not.
func same(a, b []api.Entry) bool {
	return reflect.DeepEqual(deep(a), deep(b))
}

// reads: is user among the Readers of each label of the path of label, as the words of layer 3 tell it?
func reads(labels []api.Label, user, label int) bool {
	if label < 0 || label >= len(labels) || !slices.Contains(labels[label].Readers, user) {
		return false
	}
	parent := labels[label].Parent
	return parent < 0 || parent >= label || reads(labels, user, parent)
}

// modelSees: Sees as the chapter's words tell it.
func modelSees(labels []api.Label, user int, e api.Entry) bool {
	missing := 0
	for _, label := range e.Labels {
		if !reads(labels, user, label) {
			missing++
		}
	}
	return e.User == user || missing == 0
}

// seen: the entries that user may see, in order.
func seen(labels []api.Label, user int, l []api.Entry) []api.Entry {
	return slices.DeleteFunc(deep(l), func(e api.Entry) bool { return !modelSees(labels, user, e) })
}

// modelPage: Page as the chapter's words tell it, each entry that is seen held against the range by its number.
func modelPage(labels []api.Label, user int, l []api.Entry, from, n int) []api.Entry {
	var page []api.Entry
	for number, e := range seen(labels, user, l) {
		if number >= max(from, 0) && number-max(from, 0) < min(n, 10) {
			page = append(page, e)
		}
	}
	return page
}

// pages asks Page once, and whether it answers as the model, and leaves what was handed in.
func pages(t *testing.T, labels []api.Label, user int, l []api.Entry, from, n int) {
	t.Helper()
	before := deep(l)
	if got, want := audit.Page(labels, user, l, from, n), modelPage(labels, user, l, from, n); !same(got, want) {
		t.Fatalf("Page(%v, %d, %v, %d, %d): %v, not %v", labels, user, l, from, n, got, want)
	}
	if !same(l, before) {
		t.Fatalf("Page(%v, %d, %v, %d, %d) has made of it %v", labels, user, before, from, n, l)
	}
}

// sees asks Sees of each entry.
func sees(t *testing.T, labels []api.Label, user int, l []api.Entry) {
	t.Helper()
	for _, e := range l {
		if got := audit.Sees(labels, user, e); got != modelSees(labels, user, e) {
			t.Fatalf("Sees(%v, %d, %v): %v", labels, user, e, got)
		}
	}
}

// numbers: up to most numbers of -1 to 4, in any order, some of them twice.
func numbers(r *rand.Rand, most int) []int {
	var l []int
	for range r.Intn(most + 1) {
		l = append(l, r.Intn(6)-1)
	}
	return l
}

// drawnLabels: labels, drawn at random, that need not be right.
func drawnLabels(r *rand.Rand) []api.Label {
	var l []api.Label
	for i := range r.Intn(6) {
		l = append(l, api.Label{Parent: r.Intn(i+2) - 1, Owner: r.Intn(4), Readers: numbers(r, 9), Writers: numbers(r, 9)})
	}
	return l
}

// drawnEntries: n entries, drawn at random, of users and labels of which some are none; each Op tells the place.
func drawnEntries(r *rand.Rand, n int) []api.Entry {
	var l []api.Entry
	for i := range n {
		l = append(l, api.Entry{User: r.Intn(5) - 1, Op: i, Status: r.Intn(12), Segs: numbers(r, 3), Labels: numbers(r, 2)})
	}
	return l
}
