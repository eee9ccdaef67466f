package audit_test

import (
	"math"
	"math/rand"
	"slices"
	"testing"

	"chancel/api"
	"chancel/audit"
)

// tree: of label 0, which users 0, 1, 2 read, 1 is a child that 0 and 2 read, and 3 who doesn't read 0; of 1 a child is 2, that 0 and 1 read; 3 stands alone, that 3 reads; 1 and 3 may write all.
func tree() []api.Label {
	both := []int{1, 3}
	return []api.Label{
		{Parent: -1, Readers: []int{0, 1, 2}, Writers: both},
		{Parent: 0, Owner: 1, Readers: []int{0, 2, 3}, Writers: both},
		{Parent: 1, Owner: 1, Readers: []int{0, 1}, Writers: both},
		{Parent: -1, Owner: 2, Readers: []int{3}, Writers: both},
	}
}

// about: an entry of user 9 about segments 5 and 6 of those labels.
func about(labels ...int) api.Entry {
	return api.Entry{User: 9, Op: 4, Status: 1, Segs: []int{5, 6}, Labels: labels}
}

// open: n entries of user 1 without labels, whose Op tells the place.
func open(n int) []api.Entry {
	var l []api.Entry
	for i := range n {
		l = append(l, api.Entry{User: 1, Op: i})
	}
	return l
}

// ops: the Op of each entry, in order.
func ops(l []api.Entry) []int {
	var o []int
	for _, e := range l {
		o = append(o, e.Op)
	}
	return o
}

// count: the numbers from from on and ahead of to.
func count(from, to int) []int {
	var l []int
	for i := from; i < to; i++ {
		l = append(l, i)
	}
	return l
}

// P9.1, P9.2: the example of the chapter.
func TestP9_1Example(t *testing.T) {
	labels := []api.Label{{Parent: -1, Readers: []int{0}}}
	l, ok := audit.Add(nil, api.Entry{User: 0, Op: 4, Labels: []int{0}}, 2)
	m, more := audit.Add(l, api.Entry{User: 1, Op: 5, Labels: []int{0}}, 2)
	if !ok || !more || !slices.Equal(ops(m), []int{4, 5}) {
		t.Fatal(m, ok, more)
	}
	if p := audit.Page(labels, 1, m, 0, 10); !same(p, m[1:]) {
		t.Error(p)
	}
	if p := audit.Page(labels, 0, m, 0, 10); !same(p, m) {
		t.Error(p)
	}
}

// P9.1: Add puts the entry behind all others, up to most of them; else all is as it was.
func TestP9_1Add(t *testing.T) {
	r := rand.New(rand.NewSource(1))
	for n := range 13 {
		l := drawnEntries(r, n)
		for _, most := range append(edges(), n-1, n, n+1) {
			e := drawnEntries(r, 1)[0]
			want, before := deep(l), deep(l)
			if most > n {
				want = append(want, e)
			}
			got, ok := audit.Add(l, e, most)
			if ok != (most > n) || !same(got, want) {
				t.Errorf("Add(%v, %v, %d): %v, %v", l, e, most, got, ok)
			}
			if !same(l, before) {
				t.Errorf("Add(%v, %v, %d) has made of it %v", before, e, most, l)
			}
		}
	}
}

// P9.1: an audit that grows from nothing: each entry at its place, and no more than most.
func TestP9_1AddOneByOne(t *testing.T) {
	for _, most := range []int{1, 2, 99, 100} {
		all := drawnEntries(rand.New(rand.NewSource(int64(most))), most+5)
		var l []api.Entry
		for i, e := range all {
			ok := false
			if l, ok = audit.Add(l, e, most); ok != (i < most) || !same(l, all[:min(i+1, most)]) {
				t.Fatalf("entry %d of %d: %v, %v", i, most, ok, l)
			}
		}
	}
}

// P9.1: an entry is kept as it is, whatever it tells.
func TestP9_1AddKeepsAll(t *testing.T) {
	for _, n := range edges() {
		for _, e := range []api.Entry{{}, {User: n}, {Op: n}, {Status: n}, {Segs: []int{n}}, {Labels: []int{n}}, {User: -1, Op: 1, Status: n, Segs: []int{3, n, 3}, Labels: []int{n, 0}}} {
			l, ok := audit.Add(nil, e, 1)
			if !ok || !same(l, []api.Entry{e}) {
				t.Error(e, l, ok)
			}
			if l, ok = audit.Add(l, api.Entry{Op: 77}, 1); ok || !same(l, []api.Entry{e}) {
				t.Error("refused:", e, l, ok)
			}
		}
	}
}

// P9.1: Sees asks each label of an entry that isn't the user's own, in effect.
func TestP9_1Sees(t *testing.T) {
	for _, x := range []struct {
		e    api.Entry
		seen [5]bool // by users 0 to 4
	}{
		{about(), [5]bool{true, true, true, true, true}},
		{about(0), [5]bool{true, true, true, false, false}},
		{about(1), [5]bool{true, false, true, false, false}},
		{about(2), [5]bool{true, false, false, false, false}},
		{about(3), [5]bool{false, false, false, true, false}},
		{about(0, 1), [5]bool{true, false, true, false, false}},
		{about(1, 0), [5]bool{true, false, true, false, false}},
		{about(0, 0, 0), [5]bool{true, true, true, false, false}},
		{about(0, 2, 0), [5]bool{true, false, false, false, false}},
		{about(0, 3), [5]bool{}},
		{about(3, 0), [5]bool{}},
		{about(3, 3), [5]bool{false, false, false, true, false}},
	} {
		for user, want := range x.seen {
			if got := audit.Sees(tree(), user, x.e); got != want {
				t.Errorf("Sees of user %d, labels %v: %v", user, x.e.Labels, got)
			}
		}
	}
}

// P9.1: one's own entry is seen, whatever its labels, and also by one who is on no list.
func TestP9_1SeesOwn(t *testing.T) {
	for _, user := range edges() {
		for _, e := range []api.Entry{about(), about(0), about(1, 2, 3), about(3), about(-1), about(4), about(math.MinInt, math.MaxInt)} {
			e.User = user
			if !audit.Sees(tree(), user, e) || !audit.Sees(nil, user, e) {
				t.Errorf("user %d, labels %v", user, e.Labels)
			}
		}
	}
	e := about(3)
	for user := range 5 {
		e.User = user
		for other := range 5 {
			if got := audit.Sees(tree(), other, e); got != (other == user || other == 3) {
				t.Errorf("the entry of %d, and user %d: %v", user, other, got)
			}
		}
	}
}

// P9.1: what is no label may be read by nobody; without labels all may see.
func TestP9_1SeesOfNoLabel(t *testing.T) {
	for _, label := range edges() {
		if label >= 0 && label < 4 {
			continue
		}
		for user := range 5 {
			for _, e := range []api.Entry{about(label), about(0, label), about(label, 0)} {
				if audit.Sees(tree(), user, e) || audit.Sees(nil, user, e) {
					t.Errorf("user %d sees an entry of labels %v", user, e.Labels)
				}
			}
		}
	}
	for _, user := range edges() {
		if !audit.Sees(tree(), user, about()) || !audit.Sees(nil, user, api.Entry{User: 4, Labels: []int{}}) {
			t.Errorf("user %d doesn't see what has no labels", user)
		}
	}
}

// P9.1: an entry that is nobody's is seen by those who may read its labels.
func TestP9_1SeesNobodys(t *testing.T) {
	for user := range 5 {
		e := about(1)
		e.User = -1
		if got := audit.Sees(tree(), user, e); got != (user == 0 || user == 2) {
			t.Errorf("user %d: %v", user, got)
		}
		if !audit.Sees(tree(), user, api.Entry{User: -1, Op: 1, Status: api.Denied}) {
			t.Errorf("user %d doesn't see a login of nobody", user)
		}
	}
}

// P9.1: neither the op nor the status nor the segments say who may see an entry; nor who may write, or owns, a label.
func TestP9_1SeesByReadersAlone(t *testing.T) {
	for _, n := range edges() {
		for user := range 5 {
			for label := range 4 {
				plain := audit.Sees(tree(), user, api.Entry{User: 9, Labels: []int{label}})
				if got := audit.Sees(tree(), user, api.Entry{User: 9, Op: n, Status: n, Segs: []int{n, user, label}, Labels: []int{label}}); got != plain {
					t.Errorf("user %d, label %d, %d: %v", user, label, n, got)
				}
			}
		}
	}
	labels := []api.Label{{Parent: -1, Owner: 1, Writers: []int{1}, Readers: []int{2}}}
	if audit.Sees(labels, 1, about(0)) || !audit.Sees(labels, 2, about(0)) {
		t.Error("an owner who writes and doesn't read, a reader who doesn't write")
	}
}

// P9.1: Page of entries that are all seen: from is taken as 0 below 0, n as 0 below 1 and as 10 above 10.
func TestP9_1Page(t *testing.T) {
	for _, size := range []int{0, 1, 2, 9, 10, 11, 12, 100} {
		for _, from := range append(edges(), size-1, size, size+1) {
			for _, n := range edges() {
				a := min(max(from, 0), size)
				b := min(a+min(max(n, 0), 10), size)
				if got := ops(audit.Page(tree(), 1, open(size), from, n)); !slices.Equal(got, count(a, b)) {
					t.Errorf("Page(%d entries, %d, %d): %v", size, from, n, got)
				}
			}
		}
	}
}

// P9.1: what comes out of a page is told wholly, entry by entry.
func TestP9_1PageTellsAll(t *testing.T) {
	l := []api.Entry{{User: -1, Op: 1, Status: 3}, {User: 2, Op: 7, Status: 4, Segs: []int{3, 1, 2}, Labels: []int{1, 0}}, about(3), {User: 2, Op: 15, Status: 255, Segs: []int{math.MaxInt}, Labels: []int{-4}}}
	for user, want := range [][]int{{0, 1}, {0}, {0, 1, 3}, {0, 2}, {0}} {
		var w []api.Entry
		for _, i := range want {
			w = append(w, l[i])
		}
		for from := -1; from < 5; from++ {
			a := min(max(from, 0), len(w))
			if got := audit.Page(tree(), user, l, from, 10); !same(got, w[a:]) {
				t.Errorf("user %d from %d: %v", user, from, got)
			}
			if got := audit.Page(tree(), user, l, from, 1); !same(got, w[a:min(a+1, len(w))]) {
				t.Errorf("user %d from %d, one: %v", user, from, got)
			}
		}
	}
}

// P9.1: drawn labels and entries, each user, each place, against the chapter's words.
func TestP9_1Drawn(t *testing.T) {
	r := rand.New(rand.NewSource(2))
	for range 120 {
		labels, l := drawnLabels(r), drawnEntries(r, r.Intn(40))
		for user := -1; user < 5; user++ {
			sees(t, labels, user, l)
			for range 8 {
				pages(t, labels, user, l, r.Intn(44)-2, r.Intn(15)-1)
			}
			for _, n := range edges() {
				pages(t, labels, user, l, n, 3)
				pages(t, labels, user, l, 2, n)
			}
		}
	}
}

// P9.1: pages one behind the other are all that a user may see, each entry once.
func TestP9_1PagesMeet(t *testing.T) {
	r := rand.New(rand.NewSource(3))
	for range 100 {
		labels, l := drawnLabels(r), drawnEntries(r, 100)
		for user := range 4 {
			for _, n := range []int{1, 3, 7, 10, 11, 100} {
				var got []api.Entry
				for from := 0; from < 110; from += min(n, 10) {
					got = append(got, audit.Page(labels, user, l, from, n)...)
				}
				if !same(got, seen(labels, user, l)) {
					t.Fatalf("user %d, by %d: %v", user, n, got)
				}
			}
		}
	}
}

// P9.2: an entry that may not be seen plays no part, neither by what it tells nor by being there.
func TestP9_2(t *testing.T) {
	r := rand.New(rand.NewSource(4))
	hidden := 0
	for range 300 {
		labels, l := drawnLabels(r), drawnEntries(r, 30)
		for user := range 4 {
			left, other := seen(labels, user, l), deep(l)
			hidden += len(l) - len(left)
			for i, e := range other {
				if !modelSees(labels, user, e) {
					other[i] = api.Entry{User: e.User, Op: -r.Int(), Status: r.Int(), Segs: numbers(r, 4), Labels: append(numbers(r, 2), e.Labels...)}
				}
			}
			for from := -1; from < 32; from++ {
				n := r.Intn(12)
				want := audit.Page(labels, user, l, from, n)
				if got := audit.Page(labels, user, left, from, n); !same(got, want) {
					t.Fatalf("without what user %d may not see: %v, not %v", user, got, want)
				}
				if got := audit.Page(labels, user, other, from, n); !same(got, want) {
					t.Fatalf("with other entries that user %d may not see: %v, not %v", user, got, want)
				}
			}
		}
	}
	if hidden == 0 {
		t.Error("nothing was hidden")
	}
}

// P9.2: an entry about a label that a user may not read is on no page of theirs, unless it is theirs, then it is.
func TestP9_2UnlessOwn(t *testing.T) {
	var l []api.Entry
	for i := range 24 {
		l = append(l, api.Entry{User: i % 4, Op: i, Labels: []int{0, 3}})
	}
	for user := range 4 {
		want := []int{user, user + 4, user + 8, user + 12, user + 16, user + 20}
		if got := ops(audit.Page(tree(), user, l, 0, 10)); !slices.Equal(got, want) {
			t.Errorf("user %d: %v", user, got)
		}
		if got := ops(audit.Page(tree(), user, l, 4, 10)); !slices.Equal(got, want[4:]) {
			t.Errorf("user %d from 4: %v", user, got)
		}
	}
	if got := audit.Page(tree(), 4, l, 0, 10); len(got) != 0 {
		t.Error(got)
	}
}

// P9.2: who is granted to read a label sees what was noted about it, at its place among the others.
func TestP9_2Granted(t *testing.T) {
	l := []api.Entry{{User: 0, Op: 3}, {User: 0, Op: 4, Labels: []int{3}}, {User: 0, Op: 5}}
	labels := tree()
	if got := ops(audit.Page(labels, 2, l, 0, 9)); !slices.Equal(got, []int{3, 5}) {
		t.Error(got)
	}
	labels[3].Readers = []int{2, 3}
	if got := ops(audit.Page(labels, 2, l, 0, 9)); !slices.Equal(got, []int{3, 4, 5}) {
		t.Error(got)
	}
}

// R4: what is handed in, and the room behind it, is not written to, nor is it kept.
func TestR4Room(t *testing.T) {
	for _, most := range []int{0, 2, 3, 100} {
		numbers := []int{0, 1, -7, -7}
		room := []api.Entry{{Op: 1, Segs: numbers[:1], Labels: numbers[:2]}, {Op: 2, Segs: numbers[:2]}, {Op: 77}, {Op: 78}}
		e := api.Entry{Op: 3, Segs: numbers[:1], Labels: numbers[:1]}
		l, ok := audit.Add(room[:2], e, most)
		m, more := audit.Add(l, api.Entry{Op: 4}, most)
		audit.Page(tree(), 0, room[:2], 0, 10)
		audit.Page(tree(), 0, room[:3], 1, 1)
		if !slices.Equal(ops(room), []int{1, 2, 77, 78}) || !slices.Equal(numbers, []int{0, 1, -7, -7}) {
			t.Fatal(room, numbers)
		}
		room[0], room[1].Segs[0], e.Labels[0] = api.Entry{Op: 99}, 99, 99
		want := []api.Entry{{Op: 1, Segs: []int{0}, Labels: []int{0, 1}}, {Op: 2, Segs: []int{0, 1}}}
		if ok {
			want = append(want, api.Entry{Op: 3, Segs: []int{0}, Labels: []int{0}})
		}
		if !same(l, want) {
			t.Fatal(l)
		}
		if more {
			want = append(want, api.Entry{Op: 4})
		}
		if !same(m, want) {
			t.Fatal(m)
		}
	}
}

// spoil writes other numbers into all of l, and into the room behind it.
func spoil(l []api.Entry) {
	for i := range l {
		for _, list := range [][]int{l[i].Segs, l[i].Labels} {
			for j := range list[:cap(list)] {
				list[:cap(list)][j] = -99
			}
		}
	}
	for i := range l[:cap(l)] {
		l[:cap(l)][i] = api.Entry{User: -99, Op: -99, Status: -99}
	}
}

// R4, P0.3: what is done to an answer changes neither what was handed in nor another answer.
func TestR4AnswersAreNew(t *testing.T) {
	r := rand.New(rand.NewSource(5))
	for range 50 {
		l, labels, e := drawnEntries(r, 12), drawnLabels(r), drawnEntries(r, 1)[0]
		before, added := deep(l), append(deep(l), deep([]api.Entry{e})...)
		for _, most := range []int{0, 12, 13, 50} {
			first, _ := audit.Add(l, e, most)
			second, _ := audit.Add(l, e, most)
			page := audit.Page(labels, 1, first, 2, 9)
			want := deep(page)
			spoil(first)
			if !same(second, added[:min(13, max(12, most))]) || !same(page, want) || !same(l, before) {
				t.Fatal(second, page, l)
			}
			spoil(page)
			if !same(second, added[:min(13, max(12, most))]) || !same(l, before) {
				t.Fatal(second, l)
			}
		}
	}
}

// R4: no two lists of one answer are one in memory, also where those handed in are.
func TestR4ListsApart(t *testing.T) {
	one := []int{0, 1}
	e := api.Entry{User: 1, Segs: one, Labels: one}
	l, ok := audit.Add([]api.Entry{e, e}, e, 3)
	for _, answer := range [][]api.Entry{l, audit.Page(tree(), 1, []api.Entry{e, e, e}, 0, 3)} {
		for i := range answer {
			answer[i].Segs[0], answer[i].Labels[0] = 10+i, 20+i
			_, _ = append(answer[i].Segs, -1), append(answer[i].Labels, -1)
		}
		for i, x := range answer {
			if !ok || len(answer) != 3 || !slices.Equal(x.Segs, []int{10 + i, 1}) || !slices.Equal(x.Labels, []int{20 + i, 1}) {
				t.Error(answer)
			}
		}
	}
	if !slices.Equal(one, []int{0, 1}) {
		t.Error(one)
	}
}

// R7: what was asked ahead plays no part.
func TestR7(t *testing.T) {
	r := rand.New(rand.NewSource(6))
	labels, l := drawnLabels(r), drawnEntries(r, 40)
	want := audit.Page(labels, 2, l, 3, 5)
	for user := -1; user < 5; user++ {
		audit.Add(l, api.Entry{User: user}, 1000)
		audit.Page(tree(), user, l, 0, 10)
		audit.Page(labels, user, l[5:], user, user)
		audit.Sees(labels, user, l[user+1])
		if got := audit.Page(labels, 2, l, 3, 5); !same(got, want) {
			t.Error(got, want)
		}
	}
}

// P0: no labels, entries and numbers, however wrong, make a call panic, or go on for ever.
func TestP0AllArguments(t *testing.T) {
	ring := []api.Label{{Parent: 1, Readers: []int{0, 1}}, {Parent: 0, Readers: []int{0}}, {Parent: 2, Readers: []int{1}}, {Parent: math.MaxInt, Readers: []int{-1}}, {Parent: math.MinInt}}
	l := []api.Entry{{}, about(0, 1, 2, 3, 4), about(edges()...), {User: math.MinInt, Op: math.MaxInt, Status: -1, Segs: edges(), Labels: edges()}}
	for _, labels := range [][]api.Label{nil, {}, {{}}, ring, tree()} {
		for _, user := range edges() {
			sees(t, labels, user, l)
			for _, from := range edges() {
				for _, n := range edges() {
					pages(t, labels, user, l, from, n)
					pages(t, labels, user, nil, from, n)
				}
			}
			for _, most := range edges() {
				if got, ok := audit.Add(nil, api.Entry{User: user}, most); ok != (most > 0) || len(got) == 1 != ok {
					t.Error(most, got, ok)
				}
			}
		}
	}
}

// P0: of very many entries, and of an entry about very many labels.
func TestP0VeryMany(t *testing.T) {
	const n = 200000
	l, ok := audit.Add(open(n), about(make([]int, n)...), n+1)
	if !ok || len(l) != n+1 || len(l[n].Labels) != n {
		t.Fatal(len(l), ok)
	}
	if got := ops(audit.Page(tree(), 1, l, n-2, math.MaxInt)); !slices.Equal(got, []int{n - 2, n - 1, 4}) {
		t.Error(got)
	}
	if got := audit.Page(tree(), 3, l, n, 10); len(got) != 0 {
		t.Error(got)
	}
	if m, ok := audit.Add(l, api.Entry{}, n+1); ok || len(m) != n+1 {
		t.Error(len(m), ok)
	}
}
