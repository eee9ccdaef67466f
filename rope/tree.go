package rope

import (
	"strings"

	"chancel/letters"
)

// leaf: of a part that isn't empty.
func leaf(part string) *Rope {
	return &Rope{part: part, count: letters.Count(part), bytes: len(part)}
}

// node: of two sides whose heights differ by 1 at most.
func node(a, b *Rope) *Rope {
	return &Rope{
		left:   a,
		right:  b,
		count:  a.count + b.count,
		bytes:  a.bytes + b.bytes,
		height: max(a.height, b.height) + 1,
	}
}

// tree: of these parts, one behind the other.
func tree(l []string) *Rope {
	switch len(l) {
	case 0:
		return nil
	case 1:
		// A copy: else one part that is still in use would hold all of the text it came from.
		return leaf(strings.Clone(l[0]))
	}
	// Halves of a list differ by one part at most, so their heights by 1 at most.
	half := len(l) / 2
	return node(tree(l[:half]), tree(l[half:]))
}

// balance: of two sides whose heights differ by 2 at most.
func balance(a, b *Rope) *Rope {
	switch {
	case b.height > a.height+1 && b.left.height > b.right.height:
		return node(node(a, b.left.left), node(b.left.right, b.right))
	case b.height > a.height+1:
		return node(node(a, b.left), b.right)
	case a.height > b.height+1 && a.right.height > a.left.height:
		return node(node(a.left, a.right.left), node(a.right.right, b))
	case a.height > b.height+1:
		return node(a.left, node(a.right, b))
	}
	return node(a, b)
}

// link: all parts of a and then all of b, as they are; the height is that of the higher one, or one more.
func link(a, b *Rope) *Rope {
	switch {
	case a == nil:
		return b
	case b == nil:
		return a
	case a.height > b.height+1:
		return balance(a.left, link(a.right, b))
	case b.height > a.height+1:
		return balance(link(a, b.left), b.right)
	}
	return node(a, b)
}

// split: the letters of r ahead of the place at, clamped to r, and the others.
func split(r *Rope, at int) (*Rope, *Rope) {
	if at <= 0 {
		return nil, r
	}
	if at >= r.Len() {
		return r, nil
	}
	if r.height == 0 {
		b := letters.Byte(r.part, at)
		return leaf(r.part[:b]), leaf(r.part[b:])
	}
	// By Join, not link: what is left of a part may be short enough to go with the one beside it.
	if at <= r.left.count {
		head, tail := split(r.left, at)
		return head, Join(tail, r.right)
	}
	head, tail := split(r.right, at-r.left.count)
	return Join(r.left, head), tail
}

func firstPart(r *Rope) string {
	for r.height > 0 {
		r = r.left
	}
	return r.part
}

func lastPart(r *Rope) string {
	for r.height > 0 {
		r = r.right
	}
	return r.part
}

// cutFirst: the first part of r, and r without it.
func cutFirst(r *Rope) (string, *Rope) {
	if r.height == 0 {
		return r.part, nil
	}
	first, rest := cutFirst(r.left)
	return first, link(rest, r.right)
}

// cutLast: r without its last part, and that part.
func cutLast(r *Rope) (*Rope, string) {
	if r.height == 0 {
		return nil, r.part
	}
	rest, last := cutLast(r.right)
	return link(r.left, rest), last
}
