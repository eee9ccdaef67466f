package octets

import "strings"

// unreadable: what a reader panics with, where there is not what is to be taken.
type unreadable struct{}

// Reader: bytes that are yet to be read. What can't be taken it gives up by a panic, which Whole recovers.
type Reader struct {
	rest string
}

// Of: a reader of s.
func Of(s string) Reader {
	return Reader{rest: s}
}

// Whole: what take makes of all that r has; the zero value and false, if r gives up, or some is left.
func Whole[T any](r *Reader, take func() T) (x T, ok bool) {
	defer func() {
		p := recover()
		// A fault of the program itself is not one of the bytes, and goes on.
		if _, given := p.(unreadable); p != nil && !given {
			panic(p)
		}
	}()
	all := take()
	if r.rest != "" {
		r.GiveUp()
	}
	return all, true
}

// GiveUp: what was taken is none of what may stand there. It doesn't come back.
func (r *Reader) GiveUp() {
	panic(unreadable{})
}

// take: the next n bytes.
func (r *Reader) take(n int) string {
	if n > len(r.rest) {
		r.GiveUp()
	}
	s := r.rest[:n]
	r.rest = r.rest[n:]
	return s
}

// TakeByte: what PutByte put.
func (r *Reader) TakeByte() int {
	return int(r.take(1)[0])
}

// TakePair: what PutPair put.
func (r *Reader) TakePair() int {
	b := r.take(2)
	return int(b[0])<<8 | int(b[1])
}

// TakeNumber: what PutNumber put.
func (r *Reader) TakeNumber() int {
	b := r.take(8)
	var n uint64
	for i := range len(b) {
		n = n<<8 | uint64(b[i])
	}
	return int(n)
}

// TakeText: what PutText put.
func (r *Reader) TakeText() string {
	// A copy: a text that is kept is not to keep all that came with it.
	return strings.Clone(r.take(r.TakePair()))
}

// TakeBool: what PutBool put.
func (r *Reader) TakeBool() bool {
	b := r.TakeByte()
	// Two bytes for one bool would be read alike, and could not both be written again.
	if b > 1 {
		r.GiveUp()
	}
	return b == 1
}

// TakeRest: all that is left.
func (r *Reader) TakeRest() string {
	return r.take(len(r.rest))
}

// TakeItems: n items, each by take.
func TakeItems[T any](n int, take func() T) []T {
	var l []T
	for range n {
		l = append(l, take())
	}
	return l
}
