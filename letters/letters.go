// Package letters: texts as sequences of letters; see shared/doc/01-letters.md.
//
// Range over a string reads each byte that belongs to no letter as one letter FFFD, which is just how texts that aren't right are counted here.
package letters

import "unicode/utf8"

// Right: is s valid UTF-8?
func Right(s string) bool {
	return utf8.ValidString(s)
}

// Count: how many letters s has.
func Count(s string) int {
	n := 0
	for range s {
		n++
	}
	return n
}

// Byte: how many bytes of s are ahead of the place at, clamped to s.
func Byte(s string, at int) int {
	n := 0
	for i := range s {
		// Not ==: a place below 0 is that of the first letter.
		if n >= at {
			return i
		}
		n++
	}
	return len(s)
}

// Cut: the bytes of the letters of s from from on and ahead of to, both clamped.
func Cut(s string, from, to int) string {
	// Asked of the numbers as they came: no subtraction that could wrap.
	if to <= from {
		return ""
	}
	return s[Byte(s, from):Byte(s, to)]
}

// Put: s with t at the place at, clamped to s.
func Put(s string, at int, t string) string {
	b := Byte(s, at)
	return s[:b] + t + s[b:]
}

// Letters: the letters of s.
func Letters(s string) []rune {
	l := make([]rune, 0, Count(s))
	for _, r := range s {
		l = append(l, r)
	}
	return l
}
