// Package octets: bytes, numbers, texts and bools, written one behind the other and read again, as the words of shared/doc/13-words.md tell them; for those layers whose things are told as bytes.
package octets

const (
	greatestByte = 1<<8 - 1
	greatestPair = 1<<16 - 1
)

// Writer: bytes, one thing behind the other; wrong, once something came of which there are none.
type Writer struct {
	out   []byte
	wrong bool
}

// Written: all that was put; "" and false, if something was wrong.
func (w *Writer) Written() (string, bool) {
	if w.wrong {
		return "", false
	}
	return string(w.out), true
}

// Spoil: of what is to be put there are no bytes.
func (w *Writer) Spoil() {
	w.wrong = true
}

// PutByte: a number 0 to 255, in a byte.
func (w *Writer) PutByte(n int) {
	if n < 0 || n > greatestByte {
		w.Spoil()
		return
	}
	w.out = append(w.out, byte(n))
}

// PutPair: a number 0 to 65535, in two bytes, the higher first.
func (w *Writer) PutPair(n int) {
	if n < 0 || n > greatestPair {
		w.Spoil()
		return
	}
	w.out = append(w.out, byte(n>>8), byte(n))
}

// PutNumber: any number, in eight bytes.
func (w *Writer) PutNumber(n int) {
	for shift := 56; shift >= 0; shift -= 8 {
		w.out = append(w.out, byte(n>>shift))
	}
}

// PutNumbers: each of l.
func (w *Writer) PutNumbers(l ...int) {
	for _, n := range l {
		w.PutNumber(n)
	}
}

// PutText: a text of up to 65535 bytes, behind its length.
func (w *Writer) PutText(s string) {
	w.PutPair(len(s))
	// What is wrong may be the length: a text that is far too long isn't taken in for nothing.
	if !w.wrong {
		w.out = append(w.out, s...)
	}
}

// PutBool: a byte 1 or 0.
func (w *Writer) PutBool(b bool) {
	if b {
		w.PutByte(1)
		return
	}
	w.PutByte(0)
}

// PutItems: each of l by put, without how many there are.
func PutItems[T any](w *Writer, l []T, put func(T)) {
	for _, x := range l {
		// What is wrong may be how many there are: those of a list of any length aren't all put for nothing.
		if w.wrong {
			return
		}
		put(x)
	}
}
