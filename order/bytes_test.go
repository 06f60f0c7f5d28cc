package order

import (
	"bytes"
	"encoding/binary"
	"fmt"
	"math"
	"math/rand"
	"slices"
	"testing"

	"packhorse/api"
	"packhorse/packet"
)

// places of the parts of an order's bytes, of which partsOf tells; an order's lines stand ahead of carrierAt.
const (
	idAt    = 0
	countAt = 1
	linesAt = 2
)

func num(n uint64) []byte {
	return binary.AppendUvarint(nil, n)
}

func txt(s string) []byte {
	return append(num(uint64(len(s))), s...)
}

// partsOf tells an order's bytes by the chapter's own words, part by part, with the library's numbers.
func partsOf(o api.Order) [][]byte {
	given := map[bool]uint64{false: 0, true: 1}[o.Saga.Given]
	parts := [][]byte{txt(o.Id), num(uint64(len(o.Lines)))}
	for _, l := range o.Lines {
		parts = append(parts, txt(l.Sku), num(uint64(l.Qty)), num(uint64(l.Weight)))
	}
	return append(parts, txt(o.Group.Carrier), txt(o.Group.Zone), txt(o.Group.Service),
		num(uint64(o.Total)), num(uint64(o.Saga.Phase)), num(given), num(uint64(o.Saga.Refusals)), num(uint64(o.Batch)))
}

func bytesByWords(o api.Order) []byte {
	return bytes.Join(partsOf(o), nil)
}

// loose reads what may be numbers and texts, and never minds what they are.
type loose struct {
	rest []byte
	bad  bool
}

func (l *loose) number() uint64 {
	n, size := binary.Uvarint(l.rest)
	if l.bad || size <= 0 {
		l.bad = true
		return 0
	}
	l.rest = l.rest[size:]
	return n
}

func (l *loose) text() string {
	n := l.number()
	if l.bad || n > uint64(len(l.rest)) {
		l.bad = true
		return ""
	}
	s := string(l.rest[:n])
	l.rest = l.rest[n:]
	return s
}

// takenByWords tells the RIGHT order whose bytes b begins with, and how many they are; none and 0, if there is none: it reads what b may mean, and asks whether that is RIGHT and written so.
func takenByWords(b []byte) (api.Order, int) {
	l := &loose{rest: b}
	var o api.Order
	o.Id = l.text()
	for n := l.number(); n > 0 && !l.bad; n-- {
		o.Lines = append(o.Lines, api.Line{Sku: l.text(), Qty: int64(l.number()), Weight: int64(l.number())})
	}
	o.Group.Carrier, o.Group.Zone, o.Group.Service = l.text(), l.text(), l.text()
	o.Total, o.Saga.Phase, o.Saga.Given = int64(l.number()), int(l.number()), l.number() == 1
	o.Saga.Refusals, o.Batch = int(l.number()), int64(l.number())
	size := len(b) - len(l.rest)
	if l.bad || !rightByWords(o) || !bytes.Equal(bytesByWords(o), b[:size]) {
		return api.Order{}, 0
	}
	return o, size
}

func taken(b []byte) (api.Order, api.Errno) {
	return Take(packet.New(b))
}

func none(o api.Order) bool {
	return Same(o, api.Order{})
}

func takes(t *testing.T, what string, b []byte, want api.Order) {
	t.Helper()
	if o, errno := taken(b); !Same(o, want) || errno != api.OK {
		t.Errorf("%s: %v %d, want %v", what, o, errno, want)
	}
}

func takesNone(t *testing.T, what string, b []byte) {
	t.Helper()
	if o, errno := taken(b); !none(o) || errno != api.ErrOrder {
		t.Errorf("%s: %v %d", what, o, errno)
	}
}

// holdsToTheWords holds Take of b against takenByWords, and what is left behind the order against b.
func holdsToTheWords(t *testing.T, what string, b []byte) bool {
	t.Helper()
	want, size := takenByWords(b)
	if size == 0 {
		takesNone(t, what, b)
		return false
	}
	r := packet.New(append(bytes.Clone(b[:size]), "\x03end"...))
	o, errno := Take(r)
	if !Same(o, want) || errno != api.OK || r.Text(3) != "end" || !r.Done() {
		t.Errorf("%s: %v %d, want %v", what, o, errno, want)
	}
	takes(t, what, b, want)
	return true
}

func TestPut(t *testing.T) {
	for _, c := range []struct {
		o    api.Order
		want string
	}{
		{some(), "\x03o-7\x02\x01a\xac\x02\x05\x02β\x01\x00\x03ups\x01n\x04fast\xcf\x0f\x09\x01\x02\x00"},
		{leanest(), "\x01a\x01\x01b\x01\x00\x01c\x01d\x01e\x00\x01\x00\x00\x00"},
		{with(func(o *api.Order) { o.Saga, o.Batch = api.Saga{Phase: api.Waiting}, 300 }), "\x03o-7\x02\x01a\xac\x02\x05\x02β\x01\x00\x03ups\x01n\x04fast\xcf\x0f\x03\x00\x00\xac\x02"},
		{with(func(o *api.Order) { o.Lines, o.Total, o.Saga.Refusals = o.Lines[:1], 0, 1000000 }), "\x03o-7\x01\x01a\xac\x02\x05\x03ups\x01n\x04fast\x00\x09\x01\xc0\x84\x3d\x00"},
		{with(func(o *api.Order) { o.Total, o.Id = 1000000000000, "αβγδεζηθικλμνξοπ" }), "\x20αβγδεζηθικλμνξοπ\x02\x01a\xac\x02\x05\x02β\x01\x00\x03ups\x01n\x04fast\x80\xa0\x94\xa5\x8d\x1d\x09\x01\x02\x00"},
	} {
		for _, b := range []string{"", "\x00", "\x03o-7\x02", "some bytes"} {
			if got := Put([]byte(b), c.o); string(got) != b+c.want {
				t.Errorf("Put behind %q: %q, want %q", b, got, b+c.want)
			}
		}
		if got := Put(nil, c.o); string(got) != c.want {
			t.Errorf("Put behind nil: %q, want %q", got, c.want)
		}
	}
}

func TestPutHoldsToTheWords(t *testing.T) {
	for i, o := range rightOrders() {
		want := bytesByWords(o)
		for _, b := range [][]byte{nil, {}, {0}, {128, 255}, bytes.Repeat([]byte("ahead"), 1000)} {
			if got := Put(b, o); !bytes.Equal(got, slices.Concat(b, want)) {
				t.Errorf("order %d behind %d bytes: %q, want %q", i, len(b), got[min(len(got), len(b)):], want)
			}
		}
	}
}

// TestPutLeavesBytes: what Put is handed stays as it was, spare room too, and no answer lies in it, nor in another.
func TestPutLeavesBytes(t *testing.T) {
	for i, o := range rightOrders() {
		for _, ahead := range []string{"", "x", "some bytes"} {
			for _, spare := range []int{0, 1, 8, 4000} {
				room := append([]byte(ahead), bytes.Repeat([]byte{'s'}, spare)...)
				was := bytes.Clone(room)
				given := room[:len(ahead)]
				got, other := Put(given, o), Put(given, o)
				want := bytes.Clone(got)
				clear(other[:cap(other)])
				if !bytes.Equal(room, was) || !bytes.Equal(got, want) {
					t.Errorf("order %d behind %q: memory is shared or changed", i, ahead)
				}
				clear(room)
				if !bytes.Equal(got, want) || string(got) != ahead+string(bytesByWords(o)) {
					t.Errorf("order %d behind %q: what was handed in is kept", i, ahead)
				}
			}
		}
	}
}

// TestPutOfWrongOrders: nothing is promised of what it answers, but that it does.
func TestPutOfWrongOrders(t *testing.T) {
	for _, o := range wrongOrders() {
		room := append([]byte("ahead"), "spare room"...)
		Put(room[:5], o)
		Put(nil, o)
		if string(room) != "aheadspare room" {
			t.Error("changed")
		}
	}
	many := with(func(o *api.Order) { o.Lines = row(1 << 19) })
	Put(make([]byte, 1<<20), many)
}

func TestTake(t *testing.T) {
	for i, o := range rightOrders() {
		b := Put(nil, o)
		r := packet.New(b)
		got, errno := Take(r)
		if !Same(got, o) || errno != api.OK || !r.Done() || r.Bad() {
			t.Errorf("order %d: %v %d, done %v", i, got, errno, r.Done())
		}
		again := append(b, "\x03end"...)
		r = packet.New(again)
		got, errno = Take(r)
		if !Same(got, o) || errno != api.OK || r.Done() || r.Text(9) != "end" || !r.Done() {
			t.Errorf("order %d with something behind it: %v %d", i, got, errno)
		}
	}
}

// TestTakeOfPutBehindBytes is the chapter's own example.
func TestTakeOfPutBehindBytes(t *testing.T) {
	for _, o := range rightOrders() {
		for _, b := range []string{"", "x", "\x80\x80", "some bytes"} {
			takes(t, fmt.Sprintf("behind %q", b), Put([]byte(b), o)[len(b):], o)
		}
	}
}

func TestTakeOfSeveral(t *testing.T) {
	orders := rightOrders()
	var b []byte
	for _, o := range orders {
		b = Put(packet.Number(b, 5), o)
	}
	r := packet.New(b)
	for i, o := range orders {
		n := r.Number(5)
		if got, errno := Take(r); n != 5 || !Same(got, o) || errno != api.OK {
			t.Fatalf("order %d: %v %d", i, got, errno)
		}
	}
	if !r.Done() {
		t.Error("something is left")
	}
	if o, errno := Take(r); !none(o) || errno != api.ErrOrder {
		t.Errorf("behind the last one: %v %d", o, errno)
	}
}

func TestTakeOfNothing(t *testing.T) {
	for _, b := range []string{"", "\x00", "\x80", "\x01", "\x01a", "\x01a\x00", "\x01a\x01", "some bytes", "\x00\x00\x00\x00\x00\x00\x00\x00\x00\x00\x00\x00\x00\x00\x00\x00"} {
		takesNone(t, fmt.Sprintf("%q", b), []byte(b))
	}
}

func TestTakeOfABadReader(t *testing.T) {
	for _, o := range []api.Order{some(), leanest(), fullest()} {
		b := Put(nil, o)
		for what, spoil := range map[string]func(*packet.Reader){
			"a number above most": func(r *packet.Reader) { r.Number(0) },
			"a text below 0":      func(r *packet.Reader) { r.Text(-1) },
		} {
			r := packet.New(b)
			spoil(r)
			for range 3 {
				if got, errno := Take(r); !none(got) || errno != api.ErrOrder || !r.Bad() {
					t.Errorf("%s: %v %d, bad %v", what, got, errno, r.Bad())
				}
			}
		}
	}
}

// TestTakeCutOff: an order that is cut off anywhere is none, also where noughts in place of what is lacking would make it RIGHT.
func TestTakeCutOff(t *testing.T) {
	for i, o := range rightOrders() {
		b := Put(nil, o)
		for n := range b {
			takesNone(t, fmt.Sprintf("order %d, %d bytes of it", i, n), b[:n])
		}
		takes(t, fmt.Sprintf("order %d", i), b, o)
	}
}

func TestTakeWithAByteChanged(t *testing.T) {
	fine := 0
	for i, o := range []api.Order{some(), leanest(), fullest(), with(func(o *api.Order) { o.Saga, o.Batch = api.Saga{Phase: api.Picking}, 128 })} {
		b := Put(nil, o)
		for at := range b {
			for x := range 256 {
				changed := bytes.Clone(b)
				changed[at] = byte(x)
				if holdsToTheWords(t, fmt.Sprintf("order %d, byte %d is %d", i, at, x), changed) {
					fine++
				}
			}
		}
	}
	if fine < 1000 {
		t.Errorf("only %d are RIGHT", fine)
	}
}

func TestTakeWithAByteLeftOutOrMore(t *testing.T) {
	for i, o := range []api.Order{some(), leanest(), fullest()} {
		b := Put(nil, o)
		for at := range b {
			holdsToTheWords(t, fmt.Sprintf("order %d without byte %d", i, at), slices.Delete(bytes.Clone(b), at, at+1))
			for _, x := range []byte{0, 1, 2, 'a', 127, 128, 129, 255} {
				holdsToTheWords(t, fmt.Sprintf("order %d with %d at %d", i, x, at), slices.Insert(bytes.Clone(b), at, x))
			}
		}
	}
}

// TestTakeOfWrongOrders: what isn't RIGHT is none, though it is written as Put writes.
func TestTakeOfWrongOrders(t *testing.T) {
	for i, o := range wrongOrders() {
		takesNone(t, fmt.Sprintf("order %d", i), bytesByWords(o))
		takesNone(t, fmt.Sprintf("order %d, with an order behind it", i), Put(bytesByWords(o), some()))
	}
}

// replaced tells an order's bytes with one part in place of another.
func replaced(o api.Order, at int, by []byte) []byte {
	parts := partsOf(o)
	parts[at] = by
	return bytes.Join(parts, nil)
}

func TestTakeAtEachNumber(t *testing.T) {
	for what, o := range map[string]api.Order{"some": some(), "fullest": fullest(), "waiting": with(func(o *api.Order) { o.Saga, o.Batch = api.Saga{Phase: 3}, 1 })} {
		behind := linesAt + 3*len(o.Lines) // the Carrier
		for place, c := range map[string]struct {
			at    int
			least uint64
			most  uint64
		}{
			"Qty":             {linesAt + 1, 1, 1000},
			"the second Qty":  {linesAt + 4, 1, 1000},
			"Weight":          {linesAt + 2, 0, 100000},
			"the last Weight": {behind - 1, 0, 100000},
			"Total":           {behind + 3, 0, 1000000000000},
			"Given":           {behind + 5, 0, 1},
			"Refusals":        {behind + 6, 0, 1000000},
		} {
			for _, n := range numbersAround(c.most) {
				b := replaced(o, c.at, num(n))
				if got, errno := taken(b); (errno == api.OK) != (n >= c.least && n <= c.most) || errno != api.OK && !none(got) {
					t.Errorf("%s: %s %d: %v %d", what, place, n, got, errno)
				}
				holdsToTheWords(t, fmt.Sprintf("%s: %s %d", what, place, n), b)
			}
		}
		for _, at := range []int{countAt, behind + 4, behind + 7} {
			for _, most := range []uint64{8, 12, 1000000000000} {
				for _, n := range numbersAround(most) {
					holdsToTheWords(t, fmt.Sprintf("%s: part %d is %d", what, at, n), replaced(o, at, num(n)))
				}
			}
		}
	}
}

// numbersAround tells numbers within and above a bound, also such as would come within it if a number were kept in fewer bits.
func numbersAround(most uint64) []uint64 {
	all := []uint64{0, 1, 2, 3, 7, 8, 9, 12, 13, most / 2, most - 1, most, most + 1, most + 2, math.MaxInt64, math.MaxInt64 + 1, math.MaxInt64 + 2, math.MaxUint64 - 1, math.MaxUint64}
	for _, bit := range []int{8, 16, 31, 32, 40, 63} {
		all = append(all, 1<<bit, 1<<bit+1, 1<<bit+2)
	}
	return all
}

// TestTakeOfNumbersThatAreWrittenLonger: Put writes each number in one way alone.
func TestTakeOfNumbersThatAreWrittenLonger(t *testing.T) {
	for _, o := range []api.Order{some(), leanest(), fullest()} {
		parts := partsOf(o)
		for at, part := range parts {
			_, size := binary.Uvarint(part)
			longer := bytes.Clone(part[:size])
			longer[size-1] |= 128
			for _, tail := range []string{"\x00", "\x80\x00", "\x80\x80\x80\x80\x80\x80\x80\x80\x80\x00"} {
				takesNone(t, fmt.Sprintf("part %d", at), replaced(o, at, slices.Concat(longer, []byte(tail), part[size:])))
			}
		}
	}
}

func TestTakeOfTooManyLines(t *testing.T) {
	for _, n := range []int{0, 9, 10, 16, 127, 128, 256, 264, 1 << 12} {
		takesNone(t, fmt.Sprintf("%d lines", n), bytesByWords(with(func(o *api.Order) { o.Lines = row(n) })))
	}
	for lines := 1; lines <= 8; lines++ {
		o := with(func(o *api.Order) { o.Lines = row(lines) })
		for _, n := range numbersAround(8) {
			b := replaced(o, countAt, num(n))
			if n == uint64(lines) {
				takes(t, "as many as are told of", b, o)
			} else {
				takesNone(t, fmt.Sprintf("%d lines, told to be %d", lines, n), b)
			}
		}
	}
}

// TestTakeOfLongTexts: a label of 16 signs may have 32 bytes, and no length is taken at its word.
func TestTakeOfLongTexts(t *testing.T) {
	o := some()
	behind := linesAt + 3*len(o.Lines)
	for _, at := range []int{idAt, linesAt, linesAt + 3, behind, behind + 1, behind + 2} {
		for _, s := range append(slices.Clone(rightLabels), wrongLabels...) {
			holdsToTheWords(t, fmt.Sprintf("part %d is %.40q", at, s), replaced(o, at, txt(s)))
		}
		for _, n := range numbersAround(32) {
			if n > 33 {
				takesNone(t, fmt.Sprintf("part %d of %d bytes", at, n), replaced(o, at, append(num(n), "abc"...)))
			}
		}
	}
}

// TestTakesShareNoMemory: an order that was taken stays, whatever becomes of the bytes it was taken of and of other orders.
func TestTakesShareNoMemory(t *testing.T) {
	for i, o := range rightOrders() {
		b := Put(nil, o)
		was := bytes.Clone(b)
		r, again := packet.New(b), packet.New(b)
		first, _ := Take(r)
		second, _ := Take(again)
		if !bytes.Equal(b, was) {
			t.Errorf("order %d: its bytes are changed", i)
		}
		clear(b)
		scribble(first.Lines)
		if !Same(second, o) {
			t.Errorf("order %d: %v", i, second)
		}
	}
	b := Put(Put(nil, fullest()), fullest())
	r := packet.New(b)
	first, _ := Take(r)
	scribble(first.Lines)
	if second, errno := Take(r); !Same(second, fullest()) || errno != api.OK {
		t.Errorf("the second one: %v %d", second, errno)
	}
}

// TestTakeHoldsToTheWords: orders by chance, with parts changed by chance.
func TestTakeHoldsToTheWords(t *testing.T) {
	chance := rand.New(rand.NewSource(10))
	orders := append(rightOrders(), wrongOrders()...)
	fine := 0
	for i := range 60000 {
		parts := partsOf(orders[chance.Intn(len(orders))])
		if len(parts) > 40 {
			continue
		}
		for range chance.Intn(3) {
			other := partsOf(orders[chance.Intn(len(orders))])
			at := chance.Intn(len(parts))
			switch chance.Intn(4) {
			case 0:
				parts[at] = num(uint64(chance.Intn(20)))
			case 1:
				parts[at] = other[chance.Intn(len(other))]
			case 2: // the same place, from the end
				parts[at] = other[max(0, len(other)-len(parts)+at)]
			case 3:
				parts = slices.Insert(parts, at, num(uint64(chance.Intn(3))))
			}
		}
		b := bytes.Join(parts, nil)
		if len(b) > 0 && chance.Intn(4) == 0 {
			b[chance.Intn(len(b))] = byte(chance.Intn(256))
		}
		if holdsToTheWords(t, fmt.Sprintf("try %d", i), b) {
			fine++
		}
	}
	if fine < 3000 || fine > 50000 {
		t.Errorf("only one side is tried: %d are RIGHT", fine)
	}
}
