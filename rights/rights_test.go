package rights_test

import (
	"math"
	"math/rand"
	"reflect"
	"slices"
	"testing"

	"chancel/api"
	"chancel/rights"
)

// edges: numbers that are no label and no user of most labels, and those beside the ones that are.
func edges() []int {
	return []int{math.MinInt, math.MinInt + 1, -2, -1, 0, 1, 2, 3, 7, 8, 9, 11, 12, 13, math.MaxInt - 1, math.MaxInt}
}

// chain: n labels, each the parent of the next one, that user 0 owns, and users 0 and 1 may read and write.
func chain(n int) []api.Label {
	var l []api.Label
	for i := range n {
		l = append(l, api.Label{Parent: i - 1, Readers: []int{0, 1}, Writers: []int{0, 1}})
	}
	return l
}

// tree: labels 0 to 5; of 0 the children are 1 and 2, of 1 they are 3 and 4; 5 stands alone.
func tree() []api.Label {
	return []api.Label{
		{Parent: -1, Owner: 0, Readers: []int{0, 1, 2, 3}, Writers: []int{0, 1, 2}},
		{Parent: 0, Owner: 1, Readers: []int{1, 2, 3}, Writers: []int{0, 1}},
		{Parent: 0, Owner: 2, Readers: []int{2, 4}, Writers: nil},
		{Parent: 1, Owner: 1, Readers: []int{0, 1}, Writers: []int{1, 2}},
		{Parent: 1, Owner: 3, Readers: []int{}, Writers: []int{0, 1, 2, 3, 4}},
		{Parent: -1, Owner: 4, Readers: []int{4}, Writers: []int{4}},
	}
}

// drawn: labels that are right for so many users, drawn at random.
func drawn(r *rand.Rand, users int) []api.Label {
	some := func() []int {
		var l []int
		for user := range users {
			if r.Intn(3) > 0 {
				l = append(l, user)
			}
		}
		return l
	}
	var l []api.Label
	for i := range 1 + r.Intn(api.MaxLabels) {
		l = append(l, api.Label{Parent: r.Intn(i+1) - 1, Owner: r.Intn(users), Readers: some(), Writers: some()})
	}
	return l
}

// wild: labels that need not be right in any way, drawn at random.
func wild(r *rand.Rand) []api.Label {
	some := func() []int {
		l := make([]int, r.Intn(5), 8)
		for i := range l {
			l[i] = r.Intn(6) - 1
		}
		return l
	}
	var l []api.Label
	for range r.Intn(16) {
		l = append(l, api.Label{Parent: r.Intn(20) - 4, Owner: r.Intn(6) - 1, Readers: some(), Writers: some()})
	}
	return l
}

// deep: a copy of l that shares nothing with it.
func deep(l []api.Label) []api.Label {
	var c []api.Label
	for _, x := range l {
		x.Readers = append([]int{}, x.Readers...)
		x.Writers = append([]int{}, x.Writers...)
		c = append(c, x)
	}
	return c
}

// same: are both the same labels? An empty list may be nil or not.
func same(a, b []api.Label) bool {
	return len(a) == len(b) && reflect.DeepEqual(deep(a), deep(b))
}

// path: the numbers of the labels of the path, as the chapter's words tell it.
func path(l []api.Label, label int) []int {
	p := []int{label}
	if parent := l[label].Parent; parent >= 0 && parent < label {
		p = append(p, path(l, parent)...)
	}
	return p
}

// may: as the chapter's words tell it: is user among them at each label of the path?
func may(l []api.Label, user, label int, write bool) bool {
	if label < 0 || label >= len(l) {
		return false
	}
	for _, at := range path(l, label) {
		list := l[at].Readers
		if write {
			list = l[at].Writers
		}
		there := 0
		for _, x := range list {
			if x == user {
				there++
			}
		}
		if there == 0 {
			return false
		}
	}
	return true
}

// checkMay asks May and Edits of l at each label and user of those lists.
func checkMay(t *testing.T, l []api.Label, users, labels []int) {
	t.Helper()
	for _, user := range users {
		for _, label := range labels {
			read, write := may(l, user, label, false), may(l, user, label, true)
			if got := rights.May(l, user, label, false); got != read {
				t.Fatalf("may user %d read label %d of %v: %v", user, label, l, got)
			}
			if got := rights.May(l, user, label, true); got != write {
				t.Fatalf("may user %d write label %d of %v: %v", user, label, l, got)
			}
			if got := rights.Edits(l, user, label); got != (read && write) {
				t.Fatalf("may user %d edit label %d of %v: %v", user, label, l, got)
			}
		}
	}
}

// P3.1: the example of the chapter.
func TestP3_1Example(t *testing.T) {
	l := []api.Label{{Parent: -1, Readers: []int{0, 1}}, {Parent: 0, Readers: []int{0, 2}}}
	if !rights.Right(l, 3) || rights.May(l, 2, 1, false) || !rights.May(l, 0, 1, false) {
		t.Error(rights.Right(l, 3), rights.May(l, 2, 1, false), rights.May(l, 0, 1, false))
	}
}

// P3.1: Right asks for 1 to 12 labels.
func TestP3_1RightCount(t *testing.T) {
	if rights.Right(nil, 2) || rights.Right([]api.Label{}, 2) {
		t.Error("no labels are right")
	}
	for n := 1; n <= 30; n++ {
		if got := rights.Right(chain(n), 2); got != (n <= 12) {
			t.Errorf("Right of %d labels: %v", n, got)
		}
	}
}

// P3.1: Right asks that each Parent is -1, or ahead, wherever its label stands.
func TestP3_1RightParent(t *testing.T) {
	for i := range 12 {
		for _, parent := range append(edges(), 4, 5, 6, 10) {
			l := chain(12)
			l[i].Parent = parent
			if got := rights.Right(l, 2); got != (parent >= -1 && parent < i) {
				t.Errorf("Right with Parent %d at %d: %v", parent, i, got)
			}
		}
	}
}

// P3.1: Right asks that each Owner is a user.
func TestP3_1RightOwner(t *testing.T) {
	for _, users := range []int{2, 3, 8, 9, 1000, math.MaxInt} {
		for i := range 12 {
			for _, owner := range append(edges(), users-1, users) {
				l := chain(12)
				l[i].Owner = owner
				if got := rights.Right(l, users); got != (owner >= 0 && owner < users) {
					t.Errorf("Right for %d users with Owner %d at %d: %v", users, owner, i, got)
				}
			}
		}
	}
}

// P3.1: Right for no users, or for fewer than none: an Owner is wanted.
func TestP3_1RightUsers(t *testing.T) {
	for _, users := range []int{math.MinInt, -1, 0, 1, 2, 8, math.MaxInt} {
		for _, owner := range []int{-1, 0} {
			l := []api.Label{{Parent: -1, Owner: owner}}
			if got := rights.Right(l, users); got != (owner == 0 && users > 0) {
				t.Errorf("Right for %d users with Owner %d: %v", users, owner, got)
			}
		}
	}
}

// P3.1: Right asks that Readers and Writers are users, each above the one ahead, wherever their label stands.
func TestP3_1RightLists(t *testing.T) {
	lists := []struct {
		list  []int
		right bool
	}{
		{nil, true}, {[]int{}, true}, {[]int{0}, true}, {[]int{3}, true}, {[]int{0, 3}, true}, {[]int{1, 2}, true}, {[]int{0, 1, 2, 3}, true},
		{[]int{4}, false}, {[]int{-1}, false}, {[]int{-1, 0}, false}, {[]int{0, 1, 2, 3, 4}, false}, {[]int{0, 1, 2, 3, 8}, false},
		{[]int{0, 0}, false}, {[]int{3, 3}, false}, {[]int{0, 1, 1}, false}, {[]int{1, 0}, false}, {[]int{0, 2, 1}, false}, {[]int{3, 2, 1, 0}, false}, {[]int{0, 1, 0}, false},
		{[]int{math.MinInt}, false}, {[]int{math.MaxInt}, false}, {[]int{0, math.MinInt}, false}, {[]int{0, math.MaxInt, 1}, false},
	}
	for i := range 12 {
		for _, x := range lists {
			l := chain(12)
			l[i].Readers = x.list
			if got := rights.Right(l, 4); got != x.right {
				t.Errorf("Right with Readers %v at %d: %v", x.list, i, got)
			}
			l = chain(12)
			l[i].Writers = x.list
			if got := rights.Right(l, 4); got != x.right {
				t.Errorf("Right with Writers %v at %d: %v", x.list, i, got)
			}
		}
	}
}

// P3.1: May and Edits of labels that are right, at all labels and users and at what is none.
func TestP3_1May(t *testing.T) {
	checkMay(t, tree(), edges(), append(edges(), 4, 5, 6))
	r := rand.New(rand.NewSource(1))
	for range 500 {
		l := drawn(r, 1+r.Intn(8))
		if !rights.Right(l, 8) {
			t.Fatal("not right:", l)
		}
		checkMay(t, l, edges(), append(edges(), 4, 5, 6, 8, 10))
	}
}

// P3.1: what is missing at one label of a path, whichever, is missing in effect, from that label on and not ahead of it.
func TestP3_1MayAskedOfWholePath(t *testing.T) {
	for missing := range 12 {
		r, w := chain(12), chain(12)
		r[missing].Readers = []int{0}
		w[missing].Writers = []int{0}
		for label := range 12 {
			want := label < missing
			if rights.May(r, 1, label, false) != want || !rights.May(r, 1, label, true) || rights.Edits(r, 1, label) != want {
				t.Errorf("no reader at %d: label %d", missing, label)
			}
			if !rights.May(w, 1, label, false) || rights.May(w, 1, label, true) != want || rights.Edits(w, 1, label) != want {
				t.Errorf("no writer at %d: label %d", missing, label)
			}
			if !rights.Edits(r, 0, label) || !rights.Edits(w, 0, label) {
				t.Errorf("missing user 1 at %d is missing user 0 at %d", missing, label)
			}
		}
	}
}

// P3.1: an owner may nothing but by the lists.
func TestP3_1OwnerIsNoReader(t *testing.T) {
	l := []api.Label{{Parent: -1, Owner: 1, Readers: []int{0}, Writers: []int{0}}}
	if rights.May(l, 1, 0, false) || rights.May(l, 1, 0, true) || rights.Edits(l, 1, 0) {
		t.Error("an owner who is on no list")
	}
}

// P3.1: of labels that aren't right: a Parent that isn't ahead of its label is none.
func TestP3_1MayOfWrongParents(t *testing.T) {
	for _, parent := range edges() {
		l := chain(5)
		l[0].Readers, l[0].Writers = nil, nil
		l[3].Parent = parent
		want := parent < 0 || parent >= 3
		for _, label := range []int{3, 4} {
			if rights.May(l, 1, label, false) != want || rights.May(l, 1, label, true) != want || rights.Edits(l, 1, label) != want {
				t.Errorf("Parent %d: label %d: not %v", parent, label, want)
			}
		}
	}
	ring := []api.Label{{Parent: 2, Readers: []int{0, 1}}, {Parent: 0, Readers: []int{0, 1}}, {Parent: 1, Readers: []int{1}}}
	checkMay(t, ring, []int{0, 1, 2}, []int{-1, 0, 1, 2, 3})
	r := rand.New(rand.NewSource(2))
	for range 2000 {
		checkMay(t, wild(r), edges(), append(edges(), 4, 5, 6, 10, 14, 15, 16))
	}
}

// P3.1: of lists that aren't right: who is among them is among them, wherever they stand.
func TestP3_1MayOfWrongLists(t *testing.T) {
	l := []api.Label{{Parent: -1, Readers: []int{5, 3, 4, 3, 0, 9, 2}, Writers: []int{2, 2, 1, 0}}}
	checkMay(t, l, append(edges(), 4, 5, 6), []int{0})
}

// P3.1: of very many labels, the path may be long.
func TestP3_1MayOfLongPath(t *testing.T) {
	l := chain(100000)
	if !rights.Edits(l, 1, 99999) {
		t.Error("a path of 100000 labels")
	}
	l[0].Readers = []int{0}
	if rights.May(l, 1, 99999, false) || !rights.May(l, 1, 99999, true) {
		t.Error("a path of 100000 labels, whose end may not be read")
	}
}

// wanted: what Grant answers, as the chapter's words tell it, of labels that are right.
func wanted(l []api.Label, by, label, user int, write, on bool) ([]api.Label, int) {
	if label < 0 || label >= len(l) || user < 0 || user > 7 {
		return nil, api.None
	}
	if by != l[label].Owner {
		return nil, api.Denied
	}
	c := deep(l)
	list := &c[label].Readers
	if write {
		list = &c[label].Writers
	}
	var granted []int
	for x := range 8 {
		if x == user && on || x != user && slices.Contains(*list, x) {
			granted = append(granted, x)
		}
	}
	*list = granted
	return c, api.Ok
}

// checkGrant asks Grant once, and whether all is answered and left as it should be.
func checkGrant(t *testing.T, l []api.Label, by, label, user int, write, on bool) {
	t.Helper()
	before := deep(l)
	want, status := wanted(l, by, label, user, write, on)
	got, s := rights.Grant(l, by, label, user, write, on)
	if s != status || !same(got, want) {
		t.Fatalf("Grant(%v, %d, %d, %d, %v, %v): %v, %d, not %v, %d", before, by, label, user, write, on, got, s, want, status)
	}
	if !same(l, before) {
		t.Fatalf("Grant(%v, %d, %d, %d, %v, %v) has changed what was handed in: %v", before, by, label, user, write, on, l)
	}
	if s == api.Ok && !rights.Right(got, api.MaxUsers) {
		t.Fatalf("Grant(%v, %d, %d, %d, %v, %v): not right: %v", before, by, label, user, write, on, got)
	}
}

// P3.1: Grant by each, at each label, of each user, on and off, and at numbers that are none.
func TestP3_1Grant(t *testing.T) {
	r := rand.New(rand.NewSource(3))
	all := [][]api.Label{tree(), chain(12)}
	for range 6 {
		all = append(all, drawn(r, 1+r.Intn(8)))
	}
	for _, l := range all {
		for _, by := range []int{math.MinInt, -1, 0, 1, 2, 3, 4, 5, 6, 7, 8, math.MaxInt} {
			for _, label := range append(edges(), 4, 5, 6, 8, 10) {
				for _, user := range append(edges(), 4, 5, 6) {
					for _, x := range [][2]bool{{false, false}, {false, true}, {true, false}, {true, true}} {
						checkGrant(t, l, by, label, user, x[0], x[1])
					}
				}
			}
		}
	}
}

// P3.1: where a user is put among the others.
func TestP3_1GrantPlace(t *testing.T) {
	l := []api.Label{{Parent: -1, Owner: 2, Readers: []int{1, 3, 5}, Writers: []int{0}}}
	for _, x := range []struct {
		user int
		on   bool
		want []int
	}{
		{0, true, []int{0, 1, 3, 5}}, {4, true, []int{1, 3, 4, 5}}, {7, true, []int{1, 3, 5, 7}}, {3, true, []int{1, 3, 5}},
		{1, false, []int{3, 5}}, {3, false, []int{1, 5}}, {5, false, []int{1, 3}}, {0, false, []int{1, 3, 5}}, {7, false, []int{1, 3, 5}},
	} {
		m, s := rights.Grant(l, 2, 0, x.user, false, x.on)
		if s != api.Ok || len(m) != 1 || !slices.Equal(m[0].Readers, x.want) || !slices.Equal(m[0].Writers, []int{0}) {
			t.Errorf("user %d, %v: %v, %d", x.user, x.on, m, s)
		}
	}
}

// P3.1: the first user on a list, and the last one off it; an owner may shut themselves out.
func TestP3_1GrantFirstAndLast(t *testing.T) {
	l := []api.Label{{Parent: -1, Owner: 7}}
	m, s := rights.Grant(l, 7, 0, 7, true, true)
	if s != api.Ok || !slices.Equal(m[0].Writers, []int{7}) || len(m[0].Readers) != 0 || m[0].Owner != 7 || m[0].Parent != -1 {
		t.Fatal(m, s)
	}
	if m, s = rights.Grant(m, 7, 0, 7, true, false); s != api.Ok || len(m) != 1 || len(m[0].Writers) != 0 {
		t.Fatal(m, s)
	}
}

// P3.1: with None and Denied both, None; an owner of another label is no owner, who may edit neither (and R2: no labels then).
func TestP3_1GrantRefused(t *testing.T) {
	l := tree()
	for _, x := range []struct{ by, label, user, status int }{
		{0, 0, 0, api.Ok}, {0, 0, 7, api.Ok}, {0, 0, 8, api.None}, {0, 0, -1, api.None}, {0, 6, 0, api.None}, {0, -1, 0, api.None},
		{1, 0, 0, api.Denied}, {1, 0, 8, api.None}, {1, 6, 0, api.None}, {1, 6, 8, api.None}, {0, 1, 3, api.Denied}, {0, 5, 3, api.Denied}, {-1, 0, 0, api.Denied}, {8, 0, 0, api.Denied},
	} {
		for _, f := range [][2]bool{{false, false}, {false, true}, {true, false}, {true, true}} {
			m, s := rights.Grant(l, x.by, x.label, x.user, f[0], f[1])
			if s != x.status || (len(m) == len(l)) != (s == api.Ok) || s != api.Ok && len(m) != 0 {
				t.Errorf("%v: %v, %d", x, m, s)
			}
		}
	}
	if m, s := rights.Grant(nil, 0, 0, 0, true, true); s != api.None || len(m) != 0 {
		t.Error(m, s)
	}
}

// P3.2: who may not edit the parent may not edit the child, nor read what they may not read above.
func TestP3_2ParentFirst(t *testing.T) {
	r := rand.New(rand.NewSource(4))
	for range 500 {
		l := drawn(r, 8)
		for label, x := range l {
			for user := range 8 {
				if x.Parent < 0 {
					continue
				}
				if rights.Edits(l, user, label) && !rights.Edits(l, user, x.Parent) {
					t.Fatalf("user %d may edit %d of %v, not its parent", user, label, l)
				}
				for _, write := range []bool{false, true} {
					if rights.May(l, user, label, write) && !rights.May(l, user, x.Parent, write) {
						t.Fatalf("user %d may at %d of %v, not at its parent", user, label, l)
					}
				}
			}
		}
	}
}

// P3.2: a grant at one label changes nothing for labels whose path it isn't in, nothing for other users, and of reading and writing just the one.
func TestP3_2GrantStaysBelow(t *testing.T) {
	r := rand.New(rand.NewSource(5))
	changed := 0
	for range 1000 {
		l := drawn(r, 8)
		at, user, write, on := r.Intn(len(l)), r.Intn(8), r.Intn(2) == 0, r.Intn(2) == 0
		m, s := rights.Grant(l, l[at].Owner, at, user, write, on)
		if s != api.Ok {
			t.Fatal(s)
		}
		for label := range l {
			for other := range 8 {
				for _, w := range []bool{false, true} {
					before, after := rights.May(l, other, label, w), rights.May(m, other, label, w)
					if before == after {
						continue
					}
					changed++
					if !slices.Contains(path(l, label), at) || other != user || w != write || after != on {
						t.Fatalf("Grant of %d to %d (%v, %v) in %v: label %d for user %d: %v to %v", at, user, write, on, l, label, other, before, after)
					}
				}
			}
		}
	}
	if changed == 0 {
		t.Error("no grant has changed anything")
	}
}

// P3.2: a grant at a label counts for those below it, as far as their own lists go.
func TestP3_2GrantCountsBelow(t *testing.T) {
	l := chain(4)
	l[1].Readers = []int{0}
	m, s := rights.Grant(l, 0, 1, 1, false, true)
	for label, before := range []bool{true, false, false, false} {
		if s != api.Ok || rights.Edits(l, 1, label) != before || !rights.Edits(m, 1, label) {
			t.Errorf("label %d: %v, %v, %d", label, rights.Edits(l, 1, label), rights.Edits(m, 1, label), s)
		}
	}
	m, s = rights.Grant(l, 0, 2, 1, false, true)
	if s != api.Ok || rights.May(m, 1, 2, false) {
		t.Error("a grant below makes good what is missing above", m, s)
	}
}

// R4: neither the labels nor their lists nor the room behind them are changed.
func TestR4GrantLeavesWhatIsHandedIn(t *testing.T) {
	for _, write := range []bool{false, true} {
		for user := range 8 {
			for _, on := range []bool{false, true} {
				room := []int{1, 3, 5, -7, -7, -7}
				labels := []api.Label{{Parent: -1, Readers: room[:3], Writers: room[:3]}, {Parent: 77, Readers: []int{77}}}
				m, s := rights.Grant(labels[:1], 0, 0, user, write, on)
				if s != api.Ok || !slices.Equal(room, []int{1, 3, 5, -7, -7, -7}) || labels[1].Parent != 77 || len(m) != 1 {
					t.Fatal(room, labels, m, s)
				}
				list := m[0].Readers
				if !write {
					list = m[0].Writers
				}
				if !slices.Equal(list, []int{1, 3, 5}) {
					t.Fatal("lists that are one in memory are changed both:", m)
				}
			}
		}
	}
}

// R4: no list of an answer shares memory with what was handed in, or with another one.
func TestR4GrantIsNew(t *testing.T) {
	shared := []int{0, 1, 2}
	empty := make([]int, 0, 4)
	for _, x := range []struct{ user, label int }{{1, 0}, {3, 0}, {1, 2}, {3, 2}} {
		for _, on := range []bool{false, true} {
			l := []api.Label{{Parent: -1, Readers: shared, Writers: shared}, {Parent: -1, Readers: shared, Writers: empty}, {Parent: 0, Readers: empty, Writers: empty}}
			m, s := rights.Grant(l, 0, x.label, x.user, true, on)
			if s != api.Ok {
				t.Fatal(s)
			}
			var lists [][]int
			for i := range m {
				m[i].Parent, m[i].Owner = -50, -50
				lists = append(lists, m[i].Readers, m[i].Writers)
			}
			for i, list := range lists {
				for j := range list[:cap(list)] {
					list[:cap(list)][j] = -100 - i
				}
			}
			for i, list := range lists {
				for _, got := range list {
					if got != -100-i {
						t.Fatal("lists of one answer share memory")
					}
				}
			}
			if !slices.Equal(shared, []int{0, 1, 2}) || !slices.Equal(empty[:4], []int{0, 0, 0, 0}) || l[0].Parent != -1 || l[0].Owner != 0 || l[2].Parent != 0 {
				t.Fatal("an answer shares memory with what was handed in")
			}
		}
	}
}

// P0: no labels, however wrong, and no numbers make a call panic, or go on for ever; nor is what is handed in changed.
func TestP0AllArguments(t *testing.T) {
	r := rand.New(rand.NewSource(6))
	for range 200 {
		l := wild(r)
		before := deep(l)
		for _, a := range edges() {
			rights.Right(l, a)
			for _, b := range edges() {
				rights.May(l, a, b, false)
				rights.May(l, a, b, true)
				rights.Edits(l, a, b)
				for by := -1; by < 5; by++ {
					rights.Grant(l, by, a, b, true, true)
					rights.Grant(l, by, a, b, false, false)
				}
			}
		}
		if !same(l, before) {
			t.Fatalf("%v has become %v", before, l)
		}
	}
}
