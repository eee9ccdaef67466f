package words_test

import (
	"bytes"
	"encoding/binary"
	"errors"
	"io"
	"math"
	"math/rand"
	"reflect"
	"strings"
	"testing"

	"chancel/api"
	"chancel/words"
)

// asks: one of each type, at the place of its byte.
func asks() []any {
	return []any{
		nil, api.Login{}, api.Logout{}, api.Create{}, api.Insert{}, api.Delete{}, api.Protect{}, api.Copy{},
		api.Fork{}, api.Snap{}, api.Unmake{}, api.View{}, api.Where{}, api.Flat{}, api.Grant{}, api.Log{},
	}
}

// modelOp: as the chapter's table tells it.
func modelOp(ask any) int {
	for i, a := range asks() {
		if i > 0 && reflect.TypeOf(a) == reflect.TypeOf(ask) {
			return i
		}
	}
	return 0
}

// put writes v as bytes, as the chapter's words tell it; false, if there are none.
func put(b *bytes.Buffer, v reflect.Value) bool {
	switch v.Kind() {
	case reflect.Int:
		binary.Write(b, binary.BigEndian, v.Int())
	case reflect.Bool:
		binary.Write(b, binary.BigEndian, v.Bool())
	case reflect.String:
		binary.Write(b, binary.BigEndian, uint16(v.Len()))
		b.WriteString(v.String())
		return v.Len() <= 65535
	case reflect.Slice:
		b.WriteByte(byte(v.Len()))
		for i := range v.Len() {
			if v.Len() > 255 || !put(b, v.Index(i)) {
				return false
			}
		}
		return v.Len() <= 255
	case reflect.Struct:
		for i := range v.NumField() {
			if !put(b, v.Field(i)) {
				return false
			}
		}
	}
	return true
}

var errBytes = errors.New("no such bytes")

// take reads v from bytes, as the chapter's words tell it.
func take(b *bytes.Reader, v reflect.Value) error {
	switch v.Kind() {
	case reflect.Int:
		var n int64
		err := binary.Read(b, binary.BigEndian, &n)
		v.SetInt(n)
		return err
	case reflect.Bool:
		n, err := b.ReadByte()
		v.SetBool(n == 1)
		if n > 1 {
			return errBytes
		}
		return err
	case reflect.String:
		var n uint16
		if err := binary.Read(b, binary.BigEndian, &n); err != nil {
			return err
		}
		s := make([]byte, n)
		_, err := io.ReadFull(b, s)
		v.SetString(string(s))
		return err
	case reflect.Slice:
		n, err := b.ReadByte()
		for range n {
			x := reflect.New(v.Type().Elem()).Elem()
			if err := take(b, x); err != nil {
				return err
			}
			v.Set(reflect.Append(v, x))
		}
		return err
	}
	for i := range v.NumField() {
		if err := take(b, v.Field(i)); err != nil {
			return err
		}
	}
	return nil
}

// modelCall: as the chapter's words tell it.
func modelCall(c api.Call) (string, bool) {
	b := &bytes.Buffer{}
	op := modelOp(c.Ask)
	b.WriteByte(byte(op))
	if op == 0 || !put(b, reflect.ValueOf(c.Token)) || !put(b, reflect.ValueOf(c.Seq)) || !put(b, reflect.ValueOf(c.Ask)) {
		return "", false
	}
	return b.String(), true
}

// modelAsk: as the chapter's words tell it.
func modelAsk(s string) (api.Call, bool) {
	b := bytes.NewReader([]byte(s))
	op, err := b.ReadByte()
	if err != nil || op == 0 || op > 15 {
		return api.Call{}, false
	}
	var c api.Call
	ask := reflect.New(reflect.TypeOf(asks()[op])).Elem()
	err = errors.Join(take(b, reflect.ValueOf(&c.Token).Elem()), take(b, reflect.ValueOf(&c.Seq).Elem()), take(b, ask))
	if err != nil || b.Len() > 0 {
		return api.Call{}, false
	}
	c.Ask = ask.Interface()
	return c, true
}

// afterStatus: the fields of an answer behind its status, which is a byte.
type afterStatus struct {
	Token   string
	Num, At int
	Runs    []api.Run
	Entries []api.Entry
}

// modelAnswer: as the chapter's words tell it.
func modelAnswer(a api.Answer) (string, bool) {
	b := bytes.NewBuffer([]byte{byte(a.Status)})
	if a.Status < 0 || a.Status > 255 || !put(b, reflect.ValueOf(afterStatus{a.Token, a.Num, a.At, a.Runs, a.Entries})) {
		return "", false
	}
	return b.String(), true
}

// modelTold: as the chapter's words tell it.
func modelTold(s string) (api.Answer, bool) {
	b := bytes.NewReader([]byte(s))
	status, err := b.ReadByte()
	var x afterStatus
	if err != nil || take(b, reflect.ValueOf(&x).Elem()) != nil || b.Len() > 0 {
		return api.Answer{}, false
	}
	return api.Answer{Status: int(status), Token: x.Token, Num: x.Num, At: x.At, Runs: x.Runs, Entries: x.Entries}, true
}

// bare: a without lists that are empty, which may be nil or not.
func bare(a api.Answer) api.Answer {
	a.Runs = append([]api.Run(nil), a.Runs...)
	a.Entries = append([]api.Entry(nil), a.Entries...)
	for i, e := range a.Entries {
		a.Entries[i].Segs = append([]int(nil), e.Segs...)
		a.Entries[i].Labels = append([]int(nil), e.Labels...)
	}
	return a
}

// short: s for a message.
func short(s string) string {
	if len(s) <= 200 {
		return s
	}
	return s[:200] + ".."
}

// called asks Call once, whether it answers as the model, and whether what is written is read again.
func called(t *testing.T, c api.Call) (string, bool) {
	t.Helper()
	got, ok := words.Call(c)
	if want, well := modelCall(c); got != want || ok != well {
		t.Fatalf("Call of %T: %q, %v, not %q, %v", c.Ask, short(got), ok, short(want), well)
	}
	if !ok {
		return got, ok
	}
	if again, well := words.Ask(got); !well || !reflect.DeepEqual(again, c) {
		t.Fatalf("%T isn't read again: %q, %v", c.Ask, short(got), well)
	}
	return got, ok
}

// asked asks Ask once, whether it answers as the model, and whether what is read is written as just these bytes.
func asked(t *testing.T, s string) (api.Call, bool) {
	t.Helper()
	got, ok := words.Ask(s)
	if want, well := modelAsk(s); !reflect.DeepEqual(got, want) || ok != well {
		t.Fatalf("Ask(%q): %#v, %v, not %#v, %v", short(s), got, ok, want, well)
	}
	if !ok {
		return got, ok
	}
	if again, well := words.Call(got); again != s || !well {
		t.Fatalf("%q is written otherwise: %q, %v", short(s), short(again), well)
	}
	return got, ok
}

// answered asks Answer once, whether it answers as the model, and whether what is written is read again.
func answered(t *testing.T, a api.Answer) (string, bool) {
	t.Helper()
	got, ok := words.Answer(a)
	if want, well := modelAnswer(a); got != want || ok != well {
		t.Fatalf("Answer: %q of %d bytes, %v, not %q of %d bytes, %v", short(got), len(got), ok, short(want), len(want), well)
	}
	if !ok {
		return got, ok
	}
	if again, well := words.Told(got); !well || !reflect.DeepEqual(bare(again), bare(a)) {
		t.Fatalf("an answer isn't read again: %q, %v", short(got), well)
	}
	return got, ok
}

// told asks Told once, whether it answers as the model, and whether what is read is written as just these bytes.
func told(t *testing.T, s string) (api.Answer, bool) {
	t.Helper()
	got, ok := words.Told(s)
	if want, well := modelTold(s); !reflect.DeepEqual(bare(got), bare(want)) || ok != well {
		t.Fatalf("Told(%q): %#v, %v, not %#v, %v", short(s), got, ok, want, well)
	}
	if !ok {
		if !reflect.DeepEqual(got, api.Answer{}) {
			t.Fatalf("Told(%q): %#v beside false", short(s), got)
		}
		return got, ok
	}
	if again, well := words.Answer(got); again != s || !well {
		t.Fatalf("%q is written otherwise: %q, %v", short(s), short(again), well)
	}
	return got, ok
}

// numbers: about 0, about where one of the eight bytes turns over, and at the ends of what a number can be.
func numbers() []int {
	l := []int{math.MinInt, math.MinInt + 1, math.MaxInt - 1, math.MaxInt, 0x0102030405060708, -0x0102030405060708}
	for shift := range 63 {
		for d := -1; d <= 1; d++ {
			l = append(l, 1<<shift+d, -1<<shift+d)
		}
	}
	return l
}

// drawnBytes: n bytes of any kind.
func drawnBytes(r *rand.Rand, n int) string {
	b := make([]byte, n)
	r.Read(b)
	return string(b)
}

// draw fills v with what is drawn.
func draw(r *rand.Rand, v reflect.Value) {
	switch v.Kind() {
	case reflect.Int:
		v.SetInt(int64(r.Uint64()) >> r.Intn(64))
	case reflect.Bool:
		v.SetBool(r.Intn(2) == 1)
	case reflect.String:
		v.SetString(drawnBytes(r, r.Intn([]int{1, 5, 300}[r.Intn(3)])))
	case reflect.Slice:
		n := r.Intn([]int{1, 4, 30}[r.Intn(3)])
		v.Set(reflect.MakeSlice(v.Type(), n, n+r.Intn(3)))
		for i := range n {
			draw(r, v.Index(i))
		}
	case reflect.Struct:
		for i := range v.NumField() {
			draw(r, v.Field(i))
		}
	}
}

// drawnAsk: what is asked, of that op.
func drawnAsk(r *rand.Rand, op int) any {
	v := reflect.New(reflect.TypeOf(asks()[op])).Elem()
	draw(r, v)
	return v.Interface()
}

// drawnCall: a call of any kind.
func drawnCall(r *rand.Rand) api.Call {
	return api.Call{Token: drawnBytes(r, r.Intn(9)), Seq: int(r.Uint64()) >> r.Intn(64), Ask: drawnAsk(r, 1+r.Intn(15))}
}

// drawnAnswer: an answer of any kind.
func drawnAnswer(r *rand.Rand) api.Answer {
	var a api.Answer
	draw(r, reflect.ValueOf(&a).Elem())
	a.Status = r.Intn(256)
	return a
}

// spoilt: s with some of its bytes otherwise, over, or missing.
func spoilt(r *rand.Rand, s string) string {
	at := r.Intn(len(s))
	switch r.Intn(4) {
	case 0:
		return s[:at]
	case 1:
		return s[:at] + s[at+1:]
	case 2:
		return s[:at] + drawnBytes(r, 1+r.Intn(3)) + s[at:]
	}
	return s[:at] + string([]byte{byte(r.Intn(3))}) + s[at+1:]
}

// hexed: the bytes that s tells, two digits of base 16 each, with blanks between.
func hexed(t *testing.T, s string) string {
	t.Helper()
	b := &strings.Builder{}
	for _, w := range strings.Fields(s) {
		var n int
		for i := range len(w) {
			n = n<<4 | strings.IndexByte("0123456789abcdef", w[i])
		}
		if len(w) != 2 || n < 0 {
			t.Fatal("no byte:", w)
		}
		b.WriteByte(byte(n))
	}
	return b.String()
}
