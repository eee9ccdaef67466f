package ledger_test

import (
	"math"
	"math/rand"
	"slices"
	"strings"
	"testing"

	"chancel/api"
	"chancel/ledger"
	"chancel/plate"
)

// P17.1: the example of the chapter.
func TestP17_1Example(t *testing.T) {
	l, _ := opened(t, made(t, 8), 0, 8, 0, 0)
	status(t, l.Append(strings.Repeat("a", 127)), ok)
	room(t, l, 6)
	status(t, l.Append(strings.Repeat("b", 128)), ok)
	room(t, l, 3)
}

// P17.1: a record takes a head, and a plate for each 127 bytes; what is none takes nothing.
func TestP17_1Plates(t *testing.T) {
	for n := range 1300 {
		want := 0
		if n > 0 {
			want = 1
		}
		for left := n; left > 0; left -= 127 {
			want++
		}
		if got := ledger.Plates(strings.Repeat("x", n)); got != want {
			t.Fatalf("%d bytes: %d, not %d", n, got, want)
		}
	}
	for _, x := range []struct{ bytes, plates int }{{0, 0}, {1, 2}, {127, 2}, {128, 3}, {254, 3}, {255, 4}, {127 * 516, 517}, {127*516 + 1, 518}, {65534, 518}, {65535, 518}, {65536, 0}, {65537, 0}, {131072, 0}, {1 << 20, 0}} {
		if got := ledger.Plates(strings.Repeat("\x00", x.bytes)); got != x.plates {
			t.Errorf("%d bytes: %d, not %d", x.bytes, got, x.plates)
		}
	}
}

// P17.1: what lies on which plate, byte by byte.
func TestP17_1Bytes(t *testing.T) {
	d := made(t, 9)
	l, all := opened(t, d, 2, 6, 5, 0x0102030405)
	if len(all) != 0 {
		t.Fatal(all)
	}
	status(t, l.Append(strings.Repeat("x", 127)+"yz"), ok)
	status(t, l.Append("\x00"), ok)
	for i, want := range []string{"", "", "B" + strings.Repeat("x", 127), "Byz", "H\x00\x00\x00\x01\x02\x03\x04\x06\x00\x01", "B\x00", "", "H\x00\x00\x00\x01\x02\x03\x04\x05\x00\x81", ""} {
		if got, _ := d.Get(i); got != full(want) {
			t.Errorf("plate %d: %q, not %q", i, got, want)
		}
	}
	d = made(t, 519)
	l, _ = opened(t, d, 1, 518, 0, 1<<40-1)
	status(t, l.Append(strings.Repeat("w", 65535)), ok)
	for i, want := range map[int]string{0: "", 1: "H\x00\x00\x00\xff\xff\xff\xff\xff\xff\xff", 2: "B" + strings.Repeat("w", 127), 517: "B" + strings.Repeat("w", 127), 518: "B" + strings.Repeat("w", 3)} {
		if got, _ := d.Get(i); got != full(want) {
			t.Errorf("plate %d: %q, not %q", i, got, want)
		}
	}
}

// P17.1: from each place on, round the ring, of each length.
func TestP17_1RoundTheRing(t *testing.T) {
	for n := 2; n < 8; n++ {
		for start := range n {
			for _, first := range []int{0, 1, 3} {
				for _, bytes := range []int{1, 126, 127, 128, 254, 255, 381, 382, 700} {
					p := newPair(t, first+n+2, first, n, start, 7)
					for k := range 4 * n {
						if p.append(text(bytes, k)) == api.Full {
							p.again()
							p.cut()
						}
					}
					p.again()
				}
			}
		}
	}
}

// P17.1, R2: there is no ledger of wrong arguments; the edges of each, at both sides.
func TestP17_1Open(t *testing.T) {
	const size = 10
	for _, x := range []struct {
		first, n, start, number int
		ok                      bool
	}{
		{0, 10, 0, 0, true}, {0, 10, 9, 1 << 40, true}, {0, 2, 1, 5, true}, {8, 2, 0, 0, true}, {3, 7, 6, 1<<40 - 1, true},
		{-1, 5, 0, 0, false}, {-1, 11, 0, 0, false}, {math.MinInt, 2, 0, 0, false},
		{0, 1, 0, 0, false}, {0, 0, 0, 0, false}, {0, -1, 0, 0, false}, {5, -2, 0, 0, false}, {0, math.MinInt, 0, 0, false}, {9, 1, 0, 0, false},
		{0, 11, 0, 0, false}, {1, 10, 0, 0, false}, {8, 3, 0, 0, false}, {9, 2, 0, 0, false}, {10, 2, 0, 0, false}, {11, 2, 0, 0, false},
		{math.MaxInt, 2, 0, 0, false}, {2, math.MaxInt, 0, 0, false}, {math.MaxInt, math.MaxInt, 0, 0, false}, {math.MaxInt - 1, 3, 0, 0, false}, {math.MaxInt - 1, math.MaxInt, 3, 0, false},
		{0, 10, -1, 0, false}, {0, 10, 10, 0, false}, {0, 10, 11, 0, false}, {2, 5, 5, 0, false}, {2, 5, 4, 0, true}, {0, 10, math.MinInt, 0, false}, {0, 10, math.MaxInt, 0, false},
		{0, 10, 0, -1, false}, {0, 10, 0, 1<<40 + 1, false}, {0, 10, 0, math.MinInt, false}, {0, 10, 0, math.MaxInt, false},
	} {
		l, all, ok := ledger.Open(made(t, size), x.first, x.n, x.start, x.number)
		if (l != nil) != x.ok || len(all) != 0 || ok != x.ok {
			t.Errorf("%v: %v, %v, %v", x, l, all, ok)
			continue
		}
		if at, number := l.Next(); x.ok && (at != x.start || number != x.number || l.Room() != x.n) {
			t.Errorf("%v: %d, %d, %d", x, at, number, l.Room())
		}
	}
}

// P17.1: a ring may be of all plates of the greatest disk, or of the least one that has a ring.
func TestP17_1OpenOfAll(t *testing.T) {
	for _, size := range []int{1, 2, 3, 16384} {
		d := made(t, size)
		if _, _, ok := ledger.Open(d, 0, size, size-1, 0); ok != (size > 1) {
			t.Error(size, ok)
		}
		if l, _, ok := ledger.Open(d, 0, size+1, 0, 0); l != nil || ok {
			t.Error("more than all", size)
		}
		if l, _, ok := ledger.Open(d, 1, size, 0, 0); l != nil || ok {
			t.Error("one further", size)
		}
	}
}

// P17.1, R2: of a disk that is off, or none, there is no ledger.
func TestP17_1OpenOff(t *testing.T) {
	d := made(t, 4)
	l, _ := opened(t, d, 0, 4, 0, 0)
	status(t, l.Append("a"), ok)
	d.Limit(0)
	d.Barrier()
	if l, all, ok := ledger.Open(d, 0, 4, 0, 0); l != nil || len(all) != 0 || ok {
		t.Error(l, all, ok)
	}
	d.Fall(nil)
	if _, all := opened(t, d, 0, 4, 0, 0); !slices.Equal(all, []string{"a"}) {
		t.Error(all)
	}
	for _, d := range []*plate.Disk{nil, {}} {
		for _, n := range ends() {
			if l, all, ok := ledger.Open(d, 0, n, 0, 0); l != nil || len(all) != 0 || ok {
				t.Error(n, l, all, ok)
			}
		}
	}
}

// P17.1: opening takes no step, and lays nothing.
func TestP17_1OpenTakesNoStep(t *testing.T) {
	p := newPair(t, 9, 1, 7, 3, 0)
	status(t, p.append("a"), ok)
	p.limit(0)
	for range 5 {
		p.again()
		p.cut()
	}
	if !p.d.On() {
		t.Error("off")
	}
}

// P17.1: what has one byte otherwise than a record of the next number has is none.
func TestP17_1EachByteOfARecord(t *testing.T) {
	record := text(127+3, 0)
	plates := append([]string{headOf(70000, len(record))}, bodiesOf(record)...)
	for i, s := range plates {
		for at := range 128 {
			for _, by := range []byte{1, 0x80} {
				b := []byte(s)
				b[at] ^= by
				changed := slices.Clone(plates)
				changed[i] = string(b)
				d := filled(t, 6, 1, changed...)
				m := openModel(d, 1, 4, 0, 70000)
				_, all := opened(t, d, 1, 4, 0, 70000)
				if !slices.Equal(all, m.records) {
					t.Fatalf("plate %d, byte %d: %q, not %q", i, at, all, m.records)
				}
				// The record's own bytes may be any; and one byte more is a 0 that is there.
				mine := i == 1 && at > 0 || i == 2 && at > 0 && at < 4 || i == 0 && at == 10 && by == 1
				if (len(all) == 1) != mine {
					t.Fatalf("plate %d, byte %d: %d records", i, at, len(all))
				}
			}
		}
	}
}

// P17.1: of each kind of wrong head, body or place the records end ahead of it.
func TestP17_1OpenEndsAt(t *testing.T) {
	body, zeros := full("Bab"), full("")
	long := full("B" + strings.Repeat("c", 127))
	for name, x := range map[string]struct {
		plates []string
		want   []string
	}{
		"nothing":                  {nil, nil},
		"one":                      {[]string{headOf(5, 2), body}, []string{"ab"}},
		"of bytes 0 behind":        {[]string{headOf(5, 127), body}, []string{"ab" + strings.Repeat("\x00", 125)}},
		"the number ahead":         {[]string{headOf(4, 2), body}, nil},
		"the number behind":        {[]string{headOf(6, 2), body}, nil},
		"no bytes":                 {[]string{headOf(5, 0), body, headOf(6, 2), body}, nil},
		"no bytes, head behind":    {[]string{headOf(5, 0), headOf(6, 2), body}, nil},
		"fewer bytes":              {[]string{headOf(5, 1), body}, nil},
		"a body of nothing":        {[]string{headOf(5, 2), zeros}, nil},
		"a body that is a head":    {[]string{headOf(5, 2), headOf(6, 2), body}, nil},
		"of two one body":          {[]string{headOf(5, 128), long}, nil},
		"of two the second":        {[]string{headOf(5, 128), zeros, full("Bc")}, nil},
		"of two both":              {[]string{headOf(5, 128), long, full("Bc")}, []string{strings.Repeat("c", 128)}},
		"of two one byte too much": {[]string{headOf(5, 128), long, full("Bcc")}, nil},
		"two":                      {[]string{headOf(5, 2), body, headOf(6, 3), body}, []string{"ab", "ab\x00"}},
		"two, the same number":     {[]string{headOf(5, 2), body, headOf(5, 3), body}, []string{"ab"}},
		"two, a number left out":   {[]string{headOf(5, 2), body, headOf(7, 3), body}, []string{"ab"}},
		"two, a plate between":     {[]string{headOf(5, 2), body, zeros, headOf(6, 3), body}, []string{"ab"}},
		"all of the ring":          {[]string{headOf(5, 2), body, headOf(6, 2), body, headOf(7, 2), body}, []string{"ab", "ab", "ab"}},
		"all in one":               {[]string{headOf(5, 127*5), long, long, long, long, long}, []string{strings.Repeat("c", 127*5)}},
		"no room for the head":     {[]string{headOf(5, 127*4+1), long, long, long, long, full("Bc"), headOf(6, 2)}, []string{strings.Repeat("c", 127*4+1)}},
		"no room for its body":     {[]string{headOf(5, 127*4), long, long, long, long, headOf(6, 2)}, []string{strings.Repeat("c", 127*4)}},
		"one plate too many":       {[]string{headOf(5, 127*5+1), long, long, long, long, long, body}, nil},
		"as long as can be":        {[]string{headOf(5, 65535), long, long, long, long, long, long}, nil},
	} {
		d := filled(t, 9, 1, x.plates...)
		l, all := opened(t, d, 1, 6, 0, 5)
		if !slices.Equal(all, x.want) {
			t.Errorf("%s: %q", name, all)
		}
		at, number := l.Next()
		if n := takes(all...); at != n%6 || number != 5+len(all) || l.Room() != 6-n {
			t.Errorf("%s: %d, %d, room %d", name, at, number, l.Room())
		}
	}
}

// P17.1: a ring whose bodies could be its own head, or those of the record ahead, ends ahead of that.
func TestP17_1OpenFitsBesideRecordsAhead(t *testing.T) {
	long := full("B" + strings.Repeat("c", 127))
	// The second record's last body would be the first one's head, or its body.
	for _, n := range []int{127*2 + 1, 127 * 3, 127*3 + 1, 127 * 9} {
		d := filled(t, 5, 0, headOf(0, 127), long, headOf(1, n), long, long)
		if _, all := opened(t, d, 0, 5, 0, 0); !slices.Equal(all, []string{strings.Repeat("c", 127)}) {
			t.Error(n, len(all))
		}
	}
	d := filled(t, 5, 0, headOf(0, 127), long, headOf(1, 254), long, long)
	if l, all := opened(t, d, 0, 5, 0, 0); len(all) != 2 || l.Room() != 0 {
		t.Error(len(all), l.Room())
	}
	// All are bodies but one head: round to that head it is one plate too many.
	d = filled(t, 4, 0, headOf(0, 127*4), long, long, long)
	if _, all := opened(t, d, 0, 4, 0, 0); len(all) != 0 {
		t.Error(len(all))
	}
}

// P17.1: of the ledger's first record may be told any start: what is ahead of it doesn't count.
func TestP17_1OpenFromTheMidst(t *testing.T) {
	p := newPair(t, 12, 1, 10, 7, 40)
	all := []string{"a", text(128, 1), "c", text(254, 2)}
	at := []int{7, 9, 2, 4}
	for _, r := range all[:3] {
		status(t, p.append(r), ok)
	}
	status(t, p.append(all[3]), ok)
	room(t, p.l, 0)
	for i := range all {
		if _, got := opened(t, p.d, 1, 10, at[i], 40+i); !slices.Equal(got, all[i:]) {
			t.Error(i, got)
		}
		for _, far := range []int{-1, 1} {
			if _, got := opened(t, p.d, 1, 10, at[i], 40+i+far); len(got) != 0 {
				t.Error(i, far, got)
			}
			if _, got := opened(t, p.d, 1, 10, (at[i]+far+10)%10, 40+i); len(got) != 0 {
				t.Error(i, far, got)
			}
		}
	}
}

// P17.1: no record has the number 2^40, to be read or to be laid.
func TestP17_1LastNumber(t *testing.T) {
	const last = 1<<40 - 1
	p := newPair(t, 10, 0, 10, 3, last-1)
	status(t, p.append("a"), ok)
	status(t, p.append("b"), ok)
	status(t, p.append("c"), api.Full)
	status(t, p.append(""), api.Bad)
	status(t, p.append(text(65536, 0)), api.Bad)
	p.again()
	p.cut()
	status(t, p.append("c"), api.Full)
	if at, number := p.l.Next(); at != 7 || number != last+1 || p.l.Room() != 10 {
		t.Error(at, number, p.l.Room())
	}
	p.again()
	status(t, p.append("c"), api.Full)
	body := full("Bx")
	d := filled(t, 4, 0, headOf(last, 1), body, headOf(last+1, 1), body)
	if _, all := opened(t, d, 0, 4, 0, last); !slices.Equal(all, []string{"x"}) {
		t.Error(all)
	}
	if _, all := opened(t, d, 0, 4, 2, last+1); len(all) != 0 {
		t.Error(all)
	}
}

// P17.1: each length of a record, at both sides of the room that there is.
func TestP17_1Full(t *testing.T) {
	for n := 2; n <= 6; n++ {
		for start := range n {
			for _, x := range []struct{ bytes, status int }{{127 * (n - 1), ok}, {127*(n-1) + 1, api.Full}, {127 * n, api.Full}, {65535, api.Full}, {65536, api.Bad}, {0, api.Bad}} {
				p := newPair(t, n, 0, n, start, 0)
				status(t, p.append(text(x.bytes, 0)), x.status)
				if x.status != ok {
					room(t, p.l, n)
					status(t, p.append("x"), ok)
					p.again()
					continue
				}
				room(t, p.l, 0)
				status(t, p.append("x"), api.Full)
				status(t, p.append(""), api.Bad)
				p.again()
			}
		}
	}
	p := newPair(t, 520, 1, 518, 517, 3)
	status(t, p.append(text(65535, 1)), ok)
	room(t, p.l, 0)
	p.again()
	p = newPair(t, 520, 1, 517, 0, 3)
	status(t, p.append(text(65535, 1)), api.Full)
	room(t, p.l, 517)
}

// R1: Down ahead of Bad, Bad ahead of Full.
func TestR1(t *testing.T) {
	p := newPair(t, 5, 0, 5, 0, 0)
	status(t, p.append(text(300, 0)), ok)
	for _, r := range []string{"", text(65536, 0), text(1<<17, 0)} {
		status(t, p.append(r), api.Bad)
	}
	for _, r := range []string{"x", text(128, 0), text(65535, 0)} {
		status(t, p.append(r), api.Full)
	}
	p.limit(0)
	p.d.Barrier()
	p.m.d.Barrier()
	for _, r := range []string{"", text(65536, 0), "x", text(128, 0), text(65535, 0)} {
		status(t, p.append(r), api.Down)
	}
}

// R3: what is refused takes no step, lays nothing, and leaves the ledger as it was.
func TestR3(t *testing.T) {
	p := newPair(t, 6, 1, 4, 1, 0)
	status(t, p.append("a"), ok)
	p.limit(4)
	for range 3 {
		for _, r := range []string{"", text(65536, 0)} {
			status(t, p.append(r), api.Bad)
		}
		for _, r := range []string{text(128, 0), text(65535, 0)} {
			status(t, p.append(r), api.Full)
		}
	}
	status(t, p.append("b"), ok)
	p.again()
	if at, number := p.l.Next(); at != 1 || number != 2 || len(p.m.records) != 2 {
		t.Error(at, number)
	}
}

// R3: what was broken off has left the ledger as it was: it goes on at the same place, with the same number.
func TestR3BrokenOff(t *testing.T) {
	for steps := range 5 {
		for _, pick := range [][]int{nil, {1}, {0, 1}, {1, 1}} {
			p := newPair(t, 7, 1, 6, 4, 8)
			status(t, p.append("a"), ok)
			p.limit(steps)
			status(t, p.append(text(128, 0)), api.Down)
			p.fall(pick...)
			if at, number := p.l.Next(); at != 0 || number != 9 || p.l.Room() != 4 {
				t.Fatal(at, number, p.l.Room())
			}
			status(t, p.append("b"), ok)
			p.again()
			if !slices.Equal(p.m.records, []string{"a", "b"}) {
				t.Fatal(p.m.records)
			}
		}
	}
}

// P17.1: a record takes as many steps as it has plates, and two barriers; of one less it is broken off, at each step.
func TestP17_1Steps(t *testing.T) {
	for _, bytes := range []int{1, 127, 128, 300, 127 * 5} {
		for steps := range 10 {
			p := newPair(t, 9, 1, 8, 5, 0)
			status(t, p.append("a"), ok)
			p.limit(steps)
			want := api.Down
			if steps >= takes(text(bytes, 0))+2 {
				want = ok
			}
			status(t, p.append(text(bytes, 0)), want)
			if p.d.On() != (want == ok) {
				t.Fatal("on", p.d.On())
			}
			// A ledger whose disk is off tells the same as before.
			if want == api.Down {
				if at, number := p.l.Next(); at != 7 || number != 1 || p.l.Room() != 6 {
					t.Fatal(at, number, p.l.Room())
				}
				p.cut()
				status(t, p.append("b"), api.Down)
			}
		}
	}
}

// P17.1: the bodies are laid in order, and the head not ahead of the barrier: what is loose at each step.
func TestP17_1OrderOfSteps(t *testing.T) {
	// From place 3 on: a head, and bodies at 4, 0 and 1.
	for steps, loose := range [][]int{{}, {4}, {0, 4}, {0, 1, 4}, {}, {3}} {
		d := made(t, 5)
		l, _ := opened(t, d, 0, 5, 3, 9)
		d.Limit(steps)
		status(t, l.Append(text(300, 0)), api.Down)
		if got := d.Loose(); !slices.Equal(got, loose) {
			t.Errorf("%d steps: %v, not %v", steps, got, loose)
		}
	}
}

// P17.1: the ledger goes on where its records ended, and has no records.
func TestP17_1Cut(t *testing.T) {
	p := newPair(t, 7, 0, 7, 2, 11)
	p.cut()
	p.cut()
	if at, number := p.l.Next(); at != 2 || number != 11 || p.l.Room() != 7 {
		t.Fatal(at, number, p.l.Room())
	}
	for k := range 40 {
		status(t, p.append(text(128, k)), ok)
		status(t, p.append("x"), ok)
		room(t, p.l, 2)
		p.cut()
		room(t, p.l, 7)
		p.again()
	}
	if at, number := p.l.Next(); at != (2+40*5)%7 || number != 11+80 {
		t.Error(at, number)
	}
	// What lies in the ring of former rounds is no record of this one.
	if _, all := opened(t, p.d, 0, 7, p.m.start, p.m.number); len(all) != 0 {
		t.Error(all)
	}
}

// P17.1: what is in the ring but isn't the ledger's doesn't trouble it.
func TestP17_1OverOldPlates(t *testing.T) {
	r := rand.New(rand.NewSource(6))
	for range 300 {
		p := newPair(t, 9, 1, 7, r.Intn(7), 100)
		for i := range 9 {
			old := []string{headOf(r.Intn(100), r.Intn(300)), full("B" + text(127, i)), full(text(128, i)), ""}
			p.lay(i, old[r.Intn(4)])
		}
		p.again()
		for range 20 {
			if p.append(drawnText(r)) == api.Full {
				p.cut()
			}
		}
		p.again()
	}
}

// P17.1: plates beside the ring are never laid on.
func TestP17_1BesideTheRing(t *testing.T) {
	for n := 2; n < 6; n++ {
		d := made(t, n+4)
		for _, i := range []int{0, 1, n + 2, n + 3} {
			d.Lay(i, "mine")
		}
		l, _ := opened(t, d, 2, n, n-1, 0)
		for k := range 50 {
			if l.Append(text(1+k*13%600, k)) == api.Full {
				l.Cut()
			}
		}
		for _, i := range []int{0, 1, n + 2, n + 3} {
			if s, _ := d.Get(i); s != full("mine") {
				t.Errorf("%d: plate %d: %q", n, i, s)
			}
		}
	}
}

// P17.1: drawn calls, in any order, held against the model.
func TestP17_1Drawn(t *testing.T) {
	r := rand.New(rand.NewSource(1))
	for range 700 {
		first, n := r.Intn(3), 2+r.Intn(8)
		number := []int{0, 1, 255, 256, 1 << 32, 1<<40 - 6}[r.Intn(6)]
		p := newPair(t, first+n+r.Intn(3), first, n, r.Intn(n), number)
		for range 60 {
			p.drawn(r)
		}
	}
}

// P17.1: all rows of six calls, of a small ring.
func TestP17_1AllShortRows(t *testing.T) {
	calls := []func(p *pair){
		func(p *pair) { p.append("a") }, func(p *pair) { p.append(text(128, 0)) }, func(p *pair) { p.cut() },
		func(p *pair) { p.limit(3) }, func(p *pair) { p.fall(1); p.again() }, func(p *pair) { p.fall(0, 1); p.again() },
	}
	n := 1
	for range 6 {
		n *= len(calls)
	}
	for row := range n {
		p := newPair(t, 5, 0, 5, 4, 0)
		for x, k := row, 0; k < 6; x, k = x/len(calls), k+1 {
			calls[x%len(calls)](p)
		}
		p.fall()
		p.again()
	}
}

// P17.2: a record that is broken off at each step, whatever the plates hold then, on plates with older records.
func TestP17_2EachStepEachPick(t *testing.T) {
	for _, bytes := range []int{1, 127, 128, 381} {
		k := takes(text(bytes, 3))
		for old := range 3 {
			for steps := range k + 3 {
				for pick := range 1 << k {
					d := made(t, 9)
					l, _ := opened(t, d, 0, 9, 0, 0)
					// Of former rounds: heads and bodies where the new ones come.
					for j := range 4 * old {
						if l.Append(text(1+127*(j%2), j)) == api.Full {
							l.Cut()
						}
					}
					l.Cut()
					start, number := l.Next()
					status(t, l.Append("one"), ok)
					d.Limit(steps)
					s := l.Append(text(bytes, 3))
					var picks []int
					for i := range k {
						picks = append(picks, pick>>i&1)
					}
					d.Fall(picks)
					l, all := opened(t, d, 0, 9, start, number)
					broken := []string{"one", text(bytes, 3)}
					whole := slices.Equal(all, broken)
					if !whole && !slices.Equal(all, broken[:1]) {
						t.Fatalf("%d bytes, %d steps, %v: %q", bytes, steps, picks, all)
					}
					// Answered it is there; and ahead of the head it can't be.
					if s == ok && !whole || steps < k+1 && whole {
						t.Fatalf("%d bytes, %d steps, %v: %d, %v", bytes, steps, picks, s, whole)
					}
					status(t, l.Append("two"), ok)
					d.Fall(nil)
					if _, again := opened(t, d, 0, 9, start, number); !slices.Equal(again, append(all, "two")) {
						t.Fatalf("%d bytes, %d steps, %v: %q", bytes, steps, picks, again)
					}
				}
			}
		}
	}
}

// P17.2: over and over again, from one start and number, with cuts between.
func TestP17_2Drawn(t *testing.T) {
	r := rand.New(rand.NewSource(2))
	kept, lost := 0, 0
	for range 1500 {
		n := 3 + r.Intn(8)
		d := made(t, n+2)
		start, number := r.Intn(n), r.Intn(1000)
		l, _ := opened(t, d, 1, n, start, number)
		var sure []string
		for range 40 {
			if r.Intn(3) == 0 {
				d.Limit(r.Intn(7))
			}
			record := drawnText(r)
			switch l.Append(record) {
			case api.Ok:
				sure = append(sure, record)
			case api.Full:
				l.Cut()
				start, number = l.Next()
				sure = nil
			case api.Down:
				d.Fall(picks(r, n))
				var all []string
				l, all = opened(t, d, 1, n, start, number)
				if !slices.Equal(all, sure) && !slices.Equal(all, append(slices.Clone(sure), record)) {
					t.Fatalf("%q, behind %q and %q", all, sure, record)
				}
				if len(all) > len(sure) {
					kept++
				} else {
					lost++
				}
				sure = all
			}
		}
	}
	if kept < 100 || lost < 100 {
		t.Error("too few of one kind:", kept, lost)
	}
}

// P17.2: what was answered with Ok is there when the disk falls with nothing under way, whatever is picked.
func TestP17_2Answered(t *testing.T) {
	d := made(t, 30)
	l, _ := opened(t, d, 0, 30, 20, 5)
	var sure []string
	for k := range 10 {
		sure = append(sure, text(1+k*20, k))
		status(t, l.Append(sure[k]), ok)
		if len(d.Loose()) != 0 {
			t.Fatal(d.Loose())
		}
		d.Fall([]int{1, 2, 3})
		if _, all := opened(t, d, 0, 30, 20, 5); !slices.Equal(all, sure) {
			t.Fatal(k, len(all))
		}
	}
}

// R4: lists of records are new memory, and the ledger keeps none of them.
func TestR4(t *testing.T) {
	d := made(t, 20)
	l, _ := opened(t, d, 0, 20, 0, 0)
	want := []string{"a", "b", "c"}
	for _, r := range want {
		status(t, l.Append(r), ok)
	}
	l, a := opened(t, d, 0, 20, 0, 0)
	_, b := opened(t, d, 0, 20, 0, 0)
	for i := range a {
		a[i] = "x"
	}
	_ = append(a[:0], "y", "y", "y", "y")
	if !slices.Equal(b, want) {
		t.Error(b)
	}
	status(t, l.Append("d"), ok)
	if _, c := opened(t, d, 0, 20, 0, 0); !slices.Equal(c, append(want, "d")) {
		t.Error(c)
	}
}

// R7: ledgers of two disks have nothing to do with each other; two of one disk tell the same of what lies there.
func TestR7(t *testing.T) {
	a, b := newPair(t, 8, 1, 6, 2, 0), newPair(t, 8, 1, 6, 2, 0)
	c := newPair(t, 8, 1, 6, 2, 0)
	ra, rb := rand.New(rand.NewSource(3)), rand.New(rand.NewSource(3))
	for range 2000 {
		a.drawn(ra)
		b.drawn(rb)
		b.d.Loose()
		pa, na := a.l.Next()
		if pb, nb := b.l.Next(); pa != pb || na != nb || a.l.Room() != b.l.Room() {
			t.Fatal(pa, na, pb, nb)
		}
	}
	c.same("nothing")
	d := made(t, 12)
	one, _ := opened(t, d, 0, 6, 0, 0)
	two, _ := opened(t, d, 6, 6, 0, 0)
	for k := range 3 {
		status(t, one.Append(text(100, k)), ok)
		status(t, two.Append(text(101, k)), ok)
	}
	_, l := opened(t, d, 0, 6, 0, 0)
	_, m := opened(t, d, 6, 6, 0, 0)
	if len(l) != 3 || len(m) != 3 || len(l[2]) != 100 || len(m[2]) != 101 {
		t.Error(len(l), len(m))
	}
}

// P0, R2: of a nil ledger: Down, 0.
func TestP0Nil(t *testing.T) {
	var l *ledger.Ledger
	for _, r := range []string{"", "x", text(128, 0), text(65535, 0), text(65536, 0)} {
		if s := l.Append(r); s != api.Down {
			t.Error(len(r), s)
		}
		l.Cut()
		if at, number := l.Next(); at != 0 || number != 0 || l.Room() != 0 {
			t.Error(at, number, l.Room())
		}
	}
}

// P0, R6: every call ends and none panics, at the ends of all numbers; also of a ledger that came about otherwise.
func TestP0AllArguments(t *testing.T) {
	for _, size := range []int{1, 2, 5} {
		p := &pair{t: t, d: made(t, size), m: &model{d: made(t, size)}}
		numbers := append(ends(), size-1, size, size+1)
		for _, first := range numbers {
			for _, n := range numbers {
				for _, start := range numbers {
					for _, number := range numbers {
						if p.open(first, n, start, number) {
							p.append("a")
							p.cut()
						}
					}
				}
			}
		}
	}
	other := &ledger.Ledger{}
	for _, r := range []string{"", "x", text(65536, 0)} {
		other.Append(r)
		other.Next()
		other.Room()
		other.Cut()
	}
}

// P0: all of the greatest disk, round and round.
func TestP0VeryMany(t *testing.T) {
	const n = 16384
	d := made(t, n)
	l, _ := opened(t, d, 0, n, 9, 0)
	for k := range 3 * n {
		s := l.Append(text(1+k%2*127, k))
		if s == api.Full {
			start, number := l.Next()
			l.Cut()
			l, _ = opened(t, d, 0, n, start, number)
			s = l.Append(text(1+k%2*127, k))
		}
		if s != ok {
			t.Fatal(k, s)
		}
	}
	d = made(t, n)
	l, _ = opened(t, d, 0, n, n-1, 0)
	for range n / 2 {
		status(t, l.Append("x"), ok)
	}
	status(t, l.Append("x"), api.Full)
	for range 20 {
		if l, all := opened(t, d, 0, n, n-1, 0); len(all) != n/2 || l.Room() != 0 {
			t.Fatal(len(all), l.Room())
		}
	}
	l.Cut()
	for k := range n / 518 {
		status(t, l.Append(text(65535, k)), ok)
	}
	status(t, l.Append(text(65535, 0)), api.Full)
	if _, all := opened(t, d, 0, n, n-1, n/2); len(all) != n/518 || all[30] != text(65535, 30) {
		t.Error(len(all))
	}
}
