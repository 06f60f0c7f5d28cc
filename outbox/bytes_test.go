package outbox

import (
	"bytes"
	"encoding/binary"
	"fmt"
	"math"
	"math/rand"
	"slices"
	"testing"

	"packhorse/api"
	"packhorse/packet"
)

// places of the parts of an effect's bytes, of which effectParts tells.
const (
	keyAt = iota
	kindAt
	triesAt
	dueAt
	batchAt
	orderAt
	partsEach
)

func num(n uint64) []byte {
	return binary.AppendUvarint(nil, n)
}

func txt(s string) []byte {
	return append(num(uint64(len(s))), s...)
}

// effectParts tells an effect's bytes by the chapter's own words, part by part, with the library's numbers.
func effectParts(e api.Effect) [][]byte {
	return [][]byte{num(uint64(e.Key)), num(uint64(e.Kind)), num(uint64(e.Tries)), num(uint64(e.Due)), num(uint64(e.Batch)), txt(e.Order)}
}

func partsOf(l []api.Effect) [][]byte {
	parts := [][]byte{num(uint64(len(l)))}
	for _, e := range l {
		parts = append(parts, effectParts(e)...)
	}
	return parts
}

func bytesByWords(l []api.Effect) []byte {
	return bytes.Join(partsOf(l), nil)
}

// loose reads what may be numbers and texts, and never minds what they are.
type loose struct {
	rest []byte
	bad  bool
}

func (l *loose) number() uint64 {
	n, size := binary.Uvarint(l.rest)
	if l.bad || size <= 0 {
		l.bad = true
		return 0
	}
	l.rest = l.rest[size:]
	return n
}

func (l *loose) text() string {
	n := l.number()
	if l.bad || n > uint64(len(l.rest)) {
		l.bad = true
		return ""
	}
	s := string(l.rest[:n])
	l.rest = l.rest[n:]
	return s
}

// takenByWords tells the outbox whose bytes p begins with, and how many they are; none and 0, if there is none: it reads what p may mean, and asks whether that is an outbox and written so.
func takenByWords(p []byte) ([]api.Effect, int) {
	in := &loose{rest: p}
	var l []api.Effect
	for n := in.number(); n > 0 && !in.bad; n-- {
		var e api.Effect
		e.Key, e.Kind, e.Tries, e.Due, e.Batch = int64(in.number()), int(in.number()), int(in.number()), int64(in.number()), int64(in.number())
		e.Order = in.text()
		l = append(l, e)
	}
	size := len(p) - len(in.rest)
	if in.bad || !rightByWords(l) || !bytes.Equal(bytesByWords(l), p[:size]) {
		return nil, 0
	}
	return l, size
}

func taken(p []byte) ([]api.Effect, bool) {
	return Take(packet.New(p))
}

func takes(t *testing.T, what string, p []byte, want []api.Effect) {
	t.Helper()
	if l, ok := taken(p); !slices.Equal(l, want) || !ok {
		t.Errorf("%s: %.300s %v, want %.300s", what, fmt.Sprint(l), ok, fmt.Sprint(want))
	}
}

func takesNone(t *testing.T, what string, p []byte) {
	t.Helper()
	if l, ok := taken(p); len(l) != 0 || ok {
		t.Errorf("%s: %.300s %v", what, fmt.Sprint(l), ok)
	}
}

// holdsToTheWords holds Take of p against takenByWords, and what is left behind the outbox against p.
func holdsToTheWords(t *testing.T, what string, p []byte) bool {
	t.Helper()
	want, size := takenByWords(p)
	if size == 0 {
		takesNone(t, what, p)
		return false
	}
	r := packet.New(append(bytes.Clone(p[:size]), "\x03end"...))
	l, ok := Take(r)
	if !slices.Equal(l, want) || !ok || r.Text(3) != "end" || !r.Done() {
		t.Errorf("%s: %v %v, want %v", what, l, ok, want)
	}
	takes(t, what, p, want)
	return true
}

func TestPut(t *testing.T) {
	for _, c := range []struct {
		l    []api.Effect
		want string
	}{
		{nil, "\x00"},
		{[]api.Effect{}, "\x00"},
		{[]api.Effect{{Key: 1, Kind: 1, Order: "a"}}, "\x01\x01\x01\x00\x00\x00\x01a"},
		{some()[:3], "\x03\x02\x01\x00\x05\x00\x01a\x03\x03\x03\x1e\x09\x00\x08\x06\x06\x09\x00\x02β"},
		{some()[3:], "\x02\xc8\x01\x04\xbf\x84\x3d\x05\x01\x00\x80\xa0\x94\xa5\x8d\x1d\x07\xc0\x84\x3d\x80\x80\x80\x80\x80\x20\x00\x20ωωωωωωωωωωωωωωωω"},
		{[]api.Effect{{Key: 128, Kind: 4, Batch: 1000000000000, Tries: 300, Due: 128}}, "\x01\x80\x01\x04\xac\x02\x80\x01\x80\xa0\x94\xa5\x8d\x1d\x00"},
	} {
		for _, b := range []string{"", "\x00", "\x03\x02\x01", "some bytes"} {
			if got := Put([]byte(b), c.l); string(got) != b+c.want {
				t.Errorf("Put behind %q: %q, want %q", b, got, b+c.want)
			}
		}
		if got := Put(nil, c.l); string(got) != c.want {
			t.Errorf("Put behind nil: %q, want %q", got, c.want)
		}
	}
}

func TestPutHoldsToTheWords(t *testing.T) {
	for i, l := range append(outboxes(), many(2000)) {
		want := bytesByWords(l)
		for _, b := range [][]byte{nil, {}, {0}, {128, 255}, bytes.Repeat([]byte("ahead"), 1000)} {
			if got := Put(b, l); !bytes.Equal(got, slices.Concat(b, want)) {
				t.Errorf("outbox %d behind %d bytes: %q, want %q", i, len(b), got[min(len(got), len(b)):], want)
			}
		}
	}
}

// TestPutLeavesBytes: what Put is handed stays as it was, spare room too, and no answer lies in it, nor in another.
func TestPutLeavesBytes(t *testing.T) {
	for i, l := range outboxes() {
		for _, ahead := range []string{"", "x", "some bytes"} {
			for _, spare := range []int{0, 1, 8, 4000} {
				room := append([]byte(ahead), bytes.Repeat([]byte{'s'}, spare)...)
				was := bytes.Clone(room)
				given, asItWas := kept(l)
				got, other := Put(room[:len(ahead)], given), Put(room[:len(ahead)], given)
				want := bytes.Clone(got)
				_ = append(other, 'b')
				clear(other[:cap(other)])
				if !bytes.Equal(room, was) || !asItWas() || !bytes.Equal(got, want) {
					t.Errorf("outbox %d behind %q: memory is shared or changed", i, ahead)
				}
				clear(room)
				scribble(given)
				if !bytes.Equal(got, want) || string(got) != ahead+string(bytesByWords(l)) {
					t.Errorf("outbox %d behind %q: what was handed in is kept", i, ahead)
				}
			}
		}
	}
}

// TestPutOfWrongLists: nothing is promised of what it answers, but that it does.
func TestPutOfWrongLists(t *testing.T) {
	for i, l := range wrongLists() {
		room := append([]byte("ahead"), "spare room"...)
		Put(room[:5], l)
		Put(nil, l)
		if string(room) != "aheadspare room" {
			t.Errorf("list %d: changed", i)
		}
	}
	Put(make([]byte, 1<<20), make([]api.Effect, 1<<18))
}

func TestTake(t *testing.T) {
	for i, l := range append(outboxes(), many(20000)) {
		p := Put(nil, l)
		r := packet.New(p)
		got, ok := Take(r)
		if !slices.Equal(got, l) || !ok || !r.Done() || r.Bad() {
			t.Errorf("outbox %d: %.300s %v, done %v", i, fmt.Sprint(got), ok, r.Done())
		}
		r = packet.New(append(p, "\x03end"...))
		got, ok = Take(r)
		if !slices.Equal(got, l) || !ok || r.Done() || r.Text(9) != "end" || !r.Done() {
			t.Errorf("outbox %d with something behind it: %.300s %v", i, fmt.Sprint(got), ok)
		}
	}
}

func TestTakeOfPutBehindBytes(t *testing.T) {
	for _, l := range outboxes() {
		for _, b := range []string{"", "x", "\x80\x80", "some bytes"} {
			takes(t, fmt.Sprintf("behind %q", b), Put([]byte(b), l)[len(b):], l)
		}
	}
}

func TestTakeOfSeveral(t *testing.T) {
	lists := outboxes()
	var p, alone []byte
	for _, l := range lists {
		p = Put(packet.Number(p, 5), l)
		alone = Put(alone, l)
	}
	r, one := packet.New(p), packet.New(alone)
	for i, l := range lists {
		n := r.Number(5)
		if got, ok := Take(r); n != 5 || !slices.Equal(got, l) || !ok {
			t.Fatalf("outbox %d: %v %v", i, got, ok)
		}
		if got, ok := Take(one); !slices.Equal(got, l) || !ok {
			t.Fatalf("outbox %d, right behind the one ahead: %v %v", i, got, ok)
		}
	}
	if !r.Done() || !one.Done() {
		t.Error("something is left")
	}
	if l, ok := Take(r); len(l) != 0 || ok {
		t.Errorf("behind the last one: %v %v", l, ok)
	}
}

func TestTakeOfNothing(t *testing.T) {
	for _, p := range []string{"", "\x80", "\x80\x00", "\x01", "\x02", "\x01\x01", "\x01\x01\x01\x00\x00", "\x01\x01\x01\x00\x00\x00", "\x01\x01\x03\x00\x00\x01", "some bytes", "\x01\x00\x00\x00\x00\x00\x00", "\xff\xff\xff\xff\xff\xff\xff\xff\xff\x01", "\xff\xff\xff\xff\xff\xff\xff\xff\xff\xff"} {
		takesNone(t, fmt.Sprintf("%q", p), []byte(p))
	}
	takes(t, "an outbox of none", []byte{0}, nil)
	takes(t, "an outbox of none, with more behind it", []byte{0, 0, 1}, nil)
}

func TestTakeOfABadReader(t *testing.T) {
	for _, l := range [][]api.Effect{nil, some(), many(1), many(9)} {
		for what, spoil := range map[string]func(*packet.Reader){
			"a number above most": func(r *packet.Reader) { r.Number(8) },
			"a text below 0":      func(r *packet.Reader) { r.Text(-1) },
		} {
			r := packet.New(append([]byte{9}, Put(nil, l)...))
			spoil(r)
			for range 3 {
				if got, ok := Take(r); len(got) != 0 || ok || !r.Bad() {
					t.Errorf("%s: %v %v, bad %v", what, got, ok, r.Bad())
				}
			}
		}
	}
}

// TestTakeCutOff: an outbox that is cut off anywhere is none, also where noughts in place of what is lacking would make it one.
func TestTakeCutOff(t *testing.T) {
	for i, l := range outboxes() {
		p := Put(nil, l)
		for n := range p {
			takesNone(t, fmt.Sprintf("outbox %d, %d bytes of it", i, n), p[:n])
		}
		takes(t, fmt.Sprintf("outbox %d", i), p, l)
	}
}

func TestTakeWithAByteChanged(t *testing.T) {
	fine := 0
	for i, l := range [][]api.Effect{nil, some(), many(1), many(4), {{Key: 128, Kind: 3, Batch: 1000000000000, Due: 1 << 40, Tries: 1000000}}} {
		p := Put(nil, l)
		for at := range p {
			for x := range 256 {
				changed := bytes.Clone(p)
				changed[at] = byte(x)
				if holdsToTheWords(t, fmt.Sprintf("outbox %d, byte %d is %d", i, at, x), changed) {
					fine++
				}
			}
		}
	}
	if fine < 1000 {
		t.Errorf("only %d are outboxes", fine)
	}
}

func TestTakeWithAByteLeftOutOrMore(t *testing.T) {
	for i, l := range [][]api.Effect{some(), many(1), many(2), many(9)} {
		p := Put(nil, l)
		for at := range p {
			holdsToTheWords(t, fmt.Sprintf("outbox %d without byte %d", i, at), slices.Delete(bytes.Clone(p), at, at+1))
			for _, x := range []byte{0, 1, 2, 3, 'a', 127, 128, 129, 255} {
				holdsToTheWords(t, fmt.Sprintf("outbox %d with %d at %d", i, x, at), slices.Insert(bytes.Clone(p), at, x))
			}
		}
	}
}

// TestTakeOfWrongLists: what is no outbox is none, though it is written as Put writes.
func TestTakeOfWrongLists(t *testing.T) {
	for i, l := range wrongLists() {
		takesNone(t, fmt.Sprintf("list %d", i), bytesByWords(l))
		takesNone(t, fmt.Sprintf("list %d, by Put", i), Put(nil, l))
		takesNone(t, fmt.Sprintf("list %d, with an outbox behind it", i), Put(bytesByWords(l), some()))
	}
}

// TestTakeOfOtherCounts: the count is neither below nor above what is there.
func TestTakeOfOtherCounts(t *testing.T) {
	for there := range 140 {
		parts := partsOf(many(there))
		for said := range uint64(260) {
			parts[0] = num(said)
			p := bytes.Join(parts, nil)
			if said <= uint64(there) {
				takes(t, fmt.Sprintf("%d of %d", said, there), p, many(int(said)))
			} else {
				takesNone(t, fmt.Sprintf("%d of %d", said, there), p)
			}
		}
		for _, said := range numbersAround(1000000000000) {
			parts[0] = num(said)
			holdsToTheWords(t, fmt.Sprintf("%d of %d", said, there), bytes.Join(parts, nil))
		}
	}
}

// replaced tells the bytes of an outbox with one part of one effect in place of another.
func replaced(l []api.Effect, i, at int, by []byte) []byte {
	parts := partsOf(l)
	parts[1+partsEach*i+at] = by
	return bytes.Join(parts, nil)
}

// numbersAround tells numbers within and above a bound, also such as would come within it if a number were kept in fewer bits.
func numbersAround(most uint64) []uint64 {
	all := []uint64{0, 1, 2, 3, 4, 7, 8, 9, most / 2, most - 1, most, most + 1, most + 2, math.MaxInt64, math.MaxInt64 + 1, math.MaxInt64 + 2, math.MaxUint64 - 1, math.MaxUint64}
	for _, bit := range []int{8, 16, 31, 32, 40, 63} {
		all = append(all, 1<<bit, 1<<bit+1, 1<<bit+3, 1<<bit+7)
	}
	return all
}

func TestTakeAtEachNumber(t *testing.T) {
	for what, l := range map[string][]api.Effect{"some": some(), "many": many(3), "one": many(1)} {
		for i := range l {
			for at, most := range map[int]uint64{keyAt: 1000000000000, kindAt: 7, triesAt: 1000000, dueAt: 1 << 40, batchAt: 1000000000000} {
				for _, n := range numbersAround(most) {
					p := replaced(l, i, at, num(n))
					name := fmt.Sprintf("%s, effect %d, part %d is %d", what, i, at, n)
					if got, ok := taken(p); n > most && ok || !ok && len(got) != 0 {
						t.Errorf("%s: %v %v", name, got, ok)
					}
					holdsToTheWords(t, name, p)
				}
			}
		}
	}
	for _, e := range rightEffects() {
		for at, c := range map[int]uint64{triesAt: 1000000, dueAt: 1 << 40} {
			for _, n := range numbersAround(c) {
				if _, ok := taken(replaced([]api.Effect{e}, 0, at, num(n))); ok != (n <= c) {
					t.Errorf("%v, part %d is %d: %v", e, at, n, ok)
				}
			}
		}
	}
}

// TestTakeOfNumbersThatAreWrittenLonger: Put writes each number in one way alone.
func TestTakeOfNumbersThatAreWrittenLonger(t *testing.T) {
	for _, l := range [][]api.Effect{nil, some(), many(1), many(4)} {
		for at, part := range partsOf(l) {
			_, size := binary.Uvarint(part)
			longer := bytes.Clone(part[:size])
			longer[size-1] |= 128
			for _, tail := range []string{"\x00", "\x80\x00", "\x80\x80\x80\x80\x80\x80\x80\x80\x80\x00"} {
				parts := partsOf(l)
				parts[at] = slices.Concat(longer, []byte(tail), part[size:])
				takesNone(t, fmt.Sprintf("part %d", at), bytes.Join(parts, nil))
			}
		}
	}
}

// TestTakeOfEachTwoKeys: keys that stand twice or fall make no outbox, wherever they stand.
func TestTakeOfEachTwoKeys(t *testing.T) {
	l := many(20)
	for i := range l {
		for key := range uint64(50) {
			holdsToTheWords(t, fmt.Sprintf("effect %d has the key %d", i, key), replaced(l, i, keyAt, num(key)))
		}
		for j := range l {
			if i != j {
				takesNone(t, fmt.Sprintf("effect %d has the key of %d", i, j), replaced(l, i, keyAt, num(uint64(l[j].Key))))
			}
		}
	}
}

// TestTakeOfLongTexts: a label of 16 signs may have 32 bytes, and no length is taken at its word.
func TestTakeOfLongTexts(t *testing.T) {
	for i := range some() {
		for _, s := range append(slices.Clone(rightLabels), wrongLabels...) {
			holdsToTheWords(t, fmt.Sprintf("order %d is %.40q", i, s), replaced(some(), i, orderAt, txt(s)))
		}
		for _, n := range numbersAround(32) {
			if n > 33 {
				takesNone(t, fmt.Sprintf("order %d of %d bytes", i, n), replaced(some(), i, orderAt, append(num(n), "abc"...)))
			}
		}
	}
}

// TestTakesShareNoMemory: an outbox that was taken stays, whatever becomes of the bytes it was taken of and of other outboxes.
func TestTakesShareNoMemory(t *testing.T) {
	for i, l := range outboxes() {
		p := Put(nil, l)
		was := bytes.Clone(p)
		first, _ := taken(p)
		second, _ := taken(p)
		if !bytes.Equal(p, was) {
			t.Errorf("outbox %d: its bytes are changed", i)
		}
		clear(p)
		scribble(first)
		if !slices.Equal(second, l) {
			t.Errorf("outbox %d: %v", i, second)
		}
	}
	r := packet.New(Put(Put(nil, many(9)), many(9)))
	first, _ := Take(r)
	scribble(first)
	if second, ok := Take(r); !slices.Equal(second, many(9)) || !ok {
		t.Errorf("the second one: %v %v", second, ok)
	}
}

// TestTakeHoldsToTheWords: outboxes by chance, with parts changed by chance.
func TestTakeHoldsToTheWords(t *testing.T) {
	chance := rand.New(rand.NewSource(31))
	var lists [][][]byte
	for _, l := range append(outboxes(), wrongLists()...) {
		if len(l) <= 10 {
			lists = append(lists, partsOf(l))
		}
	}
	fine := 0
	for i := range 60000 {
		parts := slices.Clone(lists[chance.Intn(len(lists))])
		for range chance.Intn(3) {
			other := lists[chance.Intn(len(lists))]
			at := chance.Intn(len(parts))
			switch chance.Intn(4) {
			case 0:
				parts[at] = num(uint64(chance.Intn(9)))
			case 1:
				parts[at] = other[chance.Intn(len(other))]
			case 2: // the same place
				parts[at] = other[min(at, len(other)-1)]
			case 3:
				parts = slices.Insert(parts, at, num(uint64(chance.Intn(3))))
			}
		}
		p := bytes.Join(parts, nil)
		if len(p) > 0 && chance.Intn(4) == 0 {
			p[chance.Intn(len(p))] = byte(chance.Intn(256))
		}
		if holdsToTheWords(t, fmt.Sprintf("try %d", i), p) {
			fine++
		}
	}
	if fine < 3000 || fine > 50000 {
		t.Errorf("only one side is tried: %d are outboxes", fine)
	}
}
