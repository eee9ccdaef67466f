package rope

import (
	"strings"
	"testing"

	"chancel/letters"
)

// checkTree: each node of r is as the chapter tells it.
func checkTree(t *testing.T, r *Rope) {
	t.Helper()
	if r == nil {
		return
	}
	if r.left == nil && r.right == nil {
		if r.part == "" || len(r.part) > maxPart || !letters.Right(r.part) {
			t.Fatalf("part %q", r.part)
		}
		if r.height != 0 || r.bytes != len(r.part) || r.count != letters.Count(r.part) {
			t.Fatalf("leaf %q: height %d, %d bytes, %d letters", r.part, r.height, r.bytes, r.count)
		}
		return
	}
	if r.left == nil || r.right == nil {
		t.Fatal("an inner node has one side")
	}
	a, b := r.left, r.right
	checkTree(t, a)
	checkTree(t, b)
	if d := a.height - b.height; d < -1 || d > 1 {
		t.Fatalf("sides of heights %d and %d", a.height, b.height)
	}
	if r.part != "" || r.height != max(a.height, b.height)+1 || r.bytes != a.bytes+b.bytes || r.count != a.count+b.count {
		t.Fatalf("inner node: part %q, height %d, %d bytes, %d letters", r.part, r.height, r.bytes, r.count)
	}
}

// checkCrumbs: no two parts that lie side by side would fit into one.
func checkCrumbs(t *testing.T, r *Rope) {
	t.Helper()
	l := r.Parts()
	for i := 1; i < len(l); i++ {
		if len(l[i-1])+len(l[i]) <= maxPart {
			t.Fatalf("parts side by side: %q, %q", l[i-1], l[i])
		}
	}
}

// high: a tree of n parts, each full.
func high(n int) *Rope {
	var l []string
	for i := range n {
		l = append(l, strings.Repeat(string(rune('a'+i%26)), maxPart))
	}
	return tree(l)
}

// P2.2: of a text of any number of parts.
func TestP2_2TreeOfNew(t *testing.T) {
	for n := range 700 {
		r, ok := New(strings.Repeat("€", 7*n))
		if !ok {
			t.Fatal(n)
		}
		checkTree(t, r)
		checkCrumbs(t, r)
	}
}

// P2.2: of two trees of any heights, whichever is the higher one; both stay as they were.
func TestP2_2TreeOfJoin(t *testing.T) {
	for n := range 70 {
		for m := range 70 {
			a, b := high(n), high(m)
			j := Join(a, b)
			checkTree(t, j)
			checkTree(t, a)
			checkTree(t, b)
			if j.Bytes() != maxPart*(n+m) || len(j.Parts()) != n+m || len(a.Parts()) != n || len(b.Parts()) != m {
				t.Fatal(n, m, j.Bytes())
			}
			if most := max(a.Height(), b.Height()) + 1; j.Height() > most {
				t.Fatalf("height %d of those of %d and %d", j.Height(), a.Height(), b.Height())
			}
		}
	}
}

// leanest: the fewest leaves that a tree of that height can have, the lower sides all left or all right.
func leanest(height int, left bool) *Rope {
	if height < 1 {
		return leaf(strings.Repeat("x", maxPart))
	}
	low, high := leanest(height-2, left), leanest(height-1, left)
	if height == 1 {
		low = leaf(strings.Repeat("y", maxPart))
	}
	if left {
		return node(low, high)
	}
	return node(high, low)
}

// P2.2: of trees that lean as far as may be, joined and cut at each place where it could matter.
func TestP2_2LeaningTrees(t *testing.T) {
	for h := range 9 {
		for k := range 9 {
			for _, lean := range []int{0, 1, 2, 3} {
				a, b := leanest(h, lean&1 == 0), leanest(k, lean&2 == 0)
				checkTree(t, a)
				j := Join(a, b)
				checkTree(t, j)
				if j.Bytes() != a.Bytes()+b.Bytes() {
					t.Fatal(h, k, lean)
				}
				for at := 0; at <= j.Len(); at += maxPart / 2 {
					checkTree(t, j.Cut(at, at+5*maxPart))
					checkTree(t, j.Drop(at, at+5*maxPart))
				}
			}
		}
	}
}

// P2.2: of cuts, drops and puts at every place of trees of some heights.
func TestP2_2TreeOfEdits(t *testing.T) {
	x, _ := New("ä")
	for _, n := range []int{1, 2, 3, 5, 8, 13} {
		r := high(n)
		for at := range r.Len() + 1 {
			for _, e := range []*Rope{r.Cut(at, n*maxPart), r.Cut(0, at), r.Cut(at, at+90), r.Drop(at, at+1), r.Drop(at, at+200), r.Put(at, x), r.Put(at, r)} {
				checkTree(t, e)
				checkCrumbs(t, e)
			}
		}
		checkTree(t, r)
	}
}

// P2.2: of many edits, one on top of another.
func TestP2_2TreeOfManyEdits(t *testing.T) {
	d := uint64(1)
	below := func(n int) int {
		d = d*6364136223846793005 + 1442695040888963407
		return int(d>>33) % n
	}
	r := high(40)
	for i := range 20000 {
		at := below(r.Len() + 1)
		if r.Len() > 4000 || i%3 == 0 {
			r = r.Drop(at, at+below(40))
		} else {
			r = r.Put(at, r.Cut(below(r.Len()+1), below(60)))
		}
		checkTree(t, r)
		checkCrumbs(t, r)
	}
}
