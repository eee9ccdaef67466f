package ledger

import (
	"strings"

	"chancel/api"
	"chancel/octets"
)

const (
	headKind = 'H'
	bodyKind = "B"
	// lengthAt: where in a head its length is, behind the kind and the number.
	lengthAt = 1 + 8
)

// head: a head's bytes.
func head(number, length int) string {
	w := &octets.Writer{}
	w.PutByte(headKind)
	w.PutNumber(number)
	w.PutPair(length)
	s, _ := w.Written()
	return s + strings.Repeat("\x00", api.Plate-len(s))
}

// lay lays the record behind the last one; false, if the disk goes off in that.
func (l *Ledger) lay(record string) bool {
	for i := range bodies(len(record)) {
		from := i * perBody
		part := record[from:min(from+perBody, len(record))]
		if !l.d.Lay(l.plate(1+i), bodyKind+part) {
			return false
		}
	}
	// A head may be there behind a fall as soon as it is laid: all that it tells of has to be firm ahead of that.
	return l.d.Barrier() && l.d.Lay(l.plate(0), head(l.number, len(record))) && l.d.Barrier()
}

// read: the record that begins behind the last one; false, if none does.
func (l *Ledger) read() (string, bool) {
	length, ok := l.length()
	if !ok || 1+bodies(length) > l.Room() {
		return "", false
	}
	return l.text(length)
}

// length: what the head behind the last record says; false, if no head of the next number is there.
func (l *Ledger) length() (int, bool) {
	s, ok := l.d.Get(l.plate(0))
	if !ok || l.number >= endNumber {
		return 0, false
	}
	n := int(s[lengthAt])<<8 | int(s[lengthAt+1])
	// What is otherwise than it would be laid is none of this ledger's.
	return n, n > 0 && s == head(l.number, n)
}

// text: that many bytes of the body plates behind the next head; false, if they aren't all there, or aren't followed by bytes 0.
func (l *Ledger) text(length int) (string, bool) {
	var b strings.Builder
	for i := range bodies(length) {
		s, _ := l.d.Get(l.plate(1 + i))
		part, ok := strings.CutPrefix(s, bodyKind)
		if !ok {
			return "", false
		}
		b.WriteString(part)
	}
	all := b.String()
	if strings.Trim(all[length:], "\x00") != "" {
		return "", false
	}
	return all[:length], true
}
