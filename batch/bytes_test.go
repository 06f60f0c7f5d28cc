package batch

import (
	"bytes"
	"encoding/binary"
	"fmt"
	"math"
	"math/rand"
	"slices"
	"testing"

	"packhorse/api"
	"packhorse/packet"
)

// places of the parts of a batch's bytes, of which partsOf tells.
const (
	idAt = iota
	kindAt
	phaseAt
	weightAt
	bornAt
	carrierAt
	zoneAt
	serviceAt
	countAt
	membersAt
)

func num(n uint64) []byte {
	return binary.AppendUvarint(nil, n)
}

func txt(s string) []byte {
	return append(num(uint64(len(s))), s...)
}

// partsOf tells a batch's bytes by the chapter's own words, part by part, with the library's numbers.
func partsOf(b api.Batch) [][]byte {
	parts := [][]byte{
		num(uint64(b.Id)), num(uint64(b.Kind)), num(uint64(b.Phase)), num(uint64(b.Weight)), num(uint64(b.Born)),
		txt(b.Group.Carrier), txt(b.Group.Zone), txt(b.Group.Service), num(uint64(len(b.Members))),
	}
	for _, s := range b.Members {
		parts = append(parts, txt(s))
	}
	return parts
}

func bytesByWords(b api.Batch) []byte {
	return bytes.Join(partsOf(b), nil)
}

// loose reads what may be numbers and texts, and never minds what they are.
type loose struct {
	rest []byte
	bad  bool
}

func (l *loose) number() uint64 {
	n, size := binary.Uvarint(l.rest)
	if l.bad || size <= 0 {
		l.bad = true
		return 0
	}
	l.rest = l.rest[size:]
	return n
}

func (l *loose) text() string {
	n := l.number()
	if l.bad || n > uint64(len(l.rest)) {
		l.bad = true
		return ""
	}
	s := string(l.rest[:n])
	l.rest = l.rest[n:]
	return s
}

// takenByWords tells the RIGHT batch whose bytes p begins with, and how many they are; none and 0, if there is none: it reads what p may mean, and asks whether that is RIGHT and written so.
func takenByWords(p []byte) (api.Batch, int) {
	l := &loose{rest: p}
	var b api.Batch
	b.Id, b.Kind, b.Phase, b.Weight, b.Born = int64(l.number()), int(l.number()), int(l.number()), int64(l.number()), int64(l.number())
	b.Group.Carrier, b.Group.Zone, b.Group.Service = l.text(), l.text(), l.text()
	for n := l.number(); n > 0 && !l.bad; n-- {
		b.Members = append(b.Members, l.text())
	}
	size := len(p) - len(l.rest)
	if l.bad || !rightByWords(b) || !bytes.Equal(bytesByWords(b), p[:size]) {
		return api.Batch{}, 0
	}
	return b, size
}

func taken(p []byte) (api.Batch, bool) {
	return Take(packet.New(p))
}

func none(b api.Batch) bool {
	return Same(b, api.Batch{})
}

func takes(t *testing.T, what string, p []byte, want api.Batch) {
	t.Helper()
	if b, ok := taken(p); !Same(b, want) || !ok {
		t.Errorf("%s: %v %v, want %v", what, b, ok, want)
	}
}

func takesNone(t *testing.T, what string, p []byte) {
	t.Helper()
	if b, ok := taken(p); !none(b) || ok {
		t.Errorf("%s: %v %v", what, b, ok)
	}
}

// holdsToTheWords holds Take of p against takenByWords, and what is left behind the batch against p.
func holdsToTheWords(t *testing.T, what string, p []byte) bool {
	t.Helper()
	want, size := takenByWords(p)
	if size == 0 {
		takesNone(t, what, p)
		return false
	}
	r := packet.New(append(bytes.Clone(p[:size]), "\x03end"...))
	b, ok := Take(r)
	if !Same(b, want) || !ok || r.Text(3) != "end" || !r.Done() {
		t.Errorf("%s: %v %v, want %v", what, b, ok, want)
	}
	takes(t, what, p, want)
	return true
}

func TestPut(t *testing.T) {
	for _, c := range []struct {
		b    api.Batch
		want string
	}{
		{some(), "\x03\x02\x01\xac\x02\x05\x03ups\x01n\x04fast\x03\x03o-7\x02β\x01a"},
		{leanest(), "\x01\x01\x01\x00\x00\x01c\x01d\x01e\x00"},
		{with(func(b *api.Batch) { b.Id, b.Weight, b.Born, b.Phase = 128, 0, 300, api.Out }), "\x80\x01\x02\x02\x00\xac\x02\x03ups\x01n\x04fast\x03\x03o-7\x02β\x01a"},
		{with(func(b *api.Batch) {
			b.Kind, b.Phase, b.Members = api.Wave, api.Done, []string{"αβγδεζηθικλμνξοπ"}
		}), "\x03\x01\x03\xac\x02\x05\x03ups\x01n\x04fast\x01\x20αβγδεζηθικλμνξοπ"},
		{with(func(b *api.Batch) {
			b.Id, b.Weight, b.Born, b.Members = 1000000000000, 1000000000000, 1<<40, []string{}
		}), "\x80\xa0\x94\xa5\x8d\x1d\x02\x01\x80\xa0\x94\xa5\x8d\x1d\x80\x80\x80\x80\x80\x20\x03ups\x01n\x04fast\x00"},
	} {
		for _, out := range []string{"", "\x00", "\x03\x02\x01", "some bytes"} {
			if got := Put([]byte(out), c.b); string(got) != out+c.want {
				t.Errorf("Put behind %q: %q, want %q", out, got, out+c.want)
			}
		}
		if got := Put(nil, c.b); string(got) != c.want {
			t.Errorf("Put behind nil: %q, want %q", got, c.want)
		}
	}
}

func TestPutHoldsToTheWords(t *testing.T) {
	for i, b := range rightBatches() {
		want := bytesByWords(b)
		for _, out := range [][]byte{nil, {}, {0}, {128, 255}, bytes.Repeat([]byte("ahead"), 1000)} {
			if got := Put(out, b); !bytes.Equal(got, slices.Concat(out, want)) {
				t.Errorf("batch %d behind %d bytes: %q, want %q", i, len(out), got[min(len(got), len(out)):], want)
			}
		}
	}
}

// TestPutLeavesBytes: what Put is handed stays as it was, spare room too, and no answer lies in it, nor in another.
func TestPutLeavesBytes(t *testing.T) {
	for i, b := range rightBatches() {
		for _, ahead := range []string{"", "x", "some bytes"} {
			for _, spare := range []int{0, 1, 8, 4000} {
				room := append([]byte(ahead), bytes.Repeat([]byte{'s'}, spare)...)
				was := bytes.Clone(room)
				given := room[:len(ahead)]
				got, other := Put(given, b), Put(given, b)
				want := bytes.Clone(got)
				clear(other[:cap(other)])
				if !bytes.Equal(room, was) || !bytes.Equal(got, want) {
					t.Errorf("batch %d behind %q: memory is shared or changed", i, ahead)
				}
				clear(room)
				if !bytes.Equal(got, want) || string(got) != ahead+string(bytesByWords(b)) {
					t.Errorf("batch %d behind %q: what was handed in is kept", i, ahead)
				}
			}
		}
	}
}

// TestPutOfWrongBatches: nothing is promised of what it answers, but that it does.
func TestPutOfWrongBatches(t *testing.T) {
	for _, b := range wrongBatches() {
		room := append([]byte("ahead"), "spare room"...)
		Put(room[:5], b)
		Put(nil, b)
		if string(room) != "aheadspare room" {
			t.Error("changed")
		}
	}
	Put(make([]byte, 1<<20), with(func(b *api.Batch) { b.Members = make([]string, 1<<20) }))
}

func TestTake(t *testing.T) {
	for i, b := range rightBatches() {
		p := Put(nil, b)
		r := packet.New(p)
		got, ok := Take(r)
		if !Same(got, b) || !ok || !r.Done() || r.Bad() {
			t.Errorf("batch %d: %v %v, done %v", i, got, ok, r.Done())
		}
		r = packet.New(append(p, "\x03end"...))
		got, ok = Take(r)
		if !Same(got, b) || !ok || r.Done() || r.Text(9) != "end" || !r.Done() {
			t.Errorf("batch %d with something behind it: %v %v", i, got, ok)
		}
	}
}

func TestTakeOfPutBehindBytes(t *testing.T) {
	for _, b := range rightBatches() {
		for _, out := range []string{"", "x", "\x80\x80", "some bytes"} {
			takes(t, fmt.Sprintf("behind %q", out), Put([]byte(out), b)[len(out):], b)
		}
	}
}

func TestTakeOfSeveral(t *testing.T) {
	batches := rightBatches()
	var p, alone []byte
	for _, b := range batches {
		p = Put(packet.Number(p, 5), b)
		alone = Put(alone, b)
	}
	r, one := packet.New(p), packet.New(alone)
	for i, b := range batches {
		n := r.Number(5)
		if got, ok := Take(r); n != 5 || !Same(got, b) || !ok {
			t.Fatalf("batch %d: %v %v", i, got, ok)
		}
		if got, ok := Take(one); !Same(got, b) || !ok {
			t.Fatalf("batch %d, right behind the one ahead: %v %v", i, got, ok)
		}
	}
	if !r.Done() || !one.Done() {
		t.Error("something is left")
	}
	if b, ok := Take(r); !none(b) || ok {
		t.Errorf("behind the last one: %v %v", b, ok)
	}
}

func TestTakeOfNothing(t *testing.T) {
	for _, p := range []string{"", "\x00", "\x80", "\x01", "\x01\x01", "\x01\x01\x01\x00\x00", "\x01\x01\x01\x00\x00\x01c\x01d\x01e", "some bytes", "\x00\x00\x00\x00\x00\x00\x00\x00\x00\x00\x00\x00\x00\x00\x00\x00"} {
		takesNone(t, fmt.Sprintf("%q", p), []byte(p))
	}
}

func TestTakeOfABadReader(t *testing.T) {
	for _, b := range []api.Batch{some(), leanest(), fullest()} {
		for what, spoil := range map[string]func(*packet.Reader){
			"a number above most": func(r *packet.Reader) { r.Number(0) },
			"a text below 0":      func(r *packet.Reader) { r.Text(-1) },
		} {
			r := packet.New(Put(nil, b))
			spoil(r)
			for range 3 {
				if got, ok := Take(r); !none(got) || ok || !r.Bad() {
					t.Errorf("%s: %v %v, bad %v", what, got, ok, r.Bad())
				}
			}
		}
	}
}

// TestTakeCutOff: a batch that is cut off anywhere is none, also where noughts in place of what is lacking would make it RIGHT.
func TestTakeCutOff(t *testing.T) {
	for i, b := range rightBatches() {
		p := Put(nil, b)
		for n := range p {
			takesNone(t, fmt.Sprintf("batch %d, %d bytes of it", i, n), p[:n])
		}
		takes(t, fmt.Sprintf("batch %d", i), p, b)
	}
}

func TestTakeWithAByteChanged(t *testing.T) {
	fine := 0
	for i, b := range []api.Batch{some(), leanest(), with(func(b *api.Batch) { b.Id, b.Weight, b.Born, b.Members = 128, 1000000000000, 1<<40, ids(9) })} {
		p := Put(nil, b)
		for at := range p {
			for x := range 256 {
				changed := bytes.Clone(p)
				changed[at] = byte(x)
				if holdsToTheWords(t, fmt.Sprintf("batch %d, byte %d is %d", i, at, x), changed) {
					fine++
				}
			}
		}
	}
	if fine < 1000 {
		t.Errorf("only %d are RIGHT", fine)
	}
}

func TestTakeWithAByteLeftOutOrMore(t *testing.T) {
	for i, b := range []api.Batch{some(), leanest(), fullest()} {
		p := Put(nil, b)
		for at := range p {
			holdsToTheWords(t, fmt.Sprintf("batch %d without byte %d", i, at), slices.Delete(bytes.Clone(p), at, at+1))
			for _, x := range []byte{0, 1, 2, 'a', 127, 128, 129, 255} {
				holdsToTheWords(t, fmt.Sprintf("batch %d with %d at %d", i, x, at), slices.Insert(bytes.Clone(p), at, x))
			}
		}
	}
}

// TestTakeOfWrongBatches: what isn't RIGHT is none, though it is written as Put writes.
func TestTakeOfWrongBatches(t *testing.T) {
	for i, b := range wrongBatches() {
		takesNone(t, fmt.Sprintf("batch %d", i), bytesByWords(b))
		takesNone(t, fmt.Sprintf("batch %d, by Put", i), Put(nil, b))
		takesNone(t, fmt.Sprintf("batch %d, with a batch behind it", i), Put(bytesByWords(b), some()))
	}
}

// replaced tells a batch's bytes with one part in place of another.
func replaced(b api.Batch, at int, by []byte) []byte {
	parts := partsOf(b)
	parts[at] = by
	return bytes.Join(parts, nil)
}

func TestTakeAtEachNumber(t *testing.T) {
	for what, b := range map[string]api.Batch{"some": some(), "leanest": leanest(), "fullest": fullest()} {
		for place, c := range map[string]struct {
			at    int
			least uint64
			most  uint64
		}{
			"Id":     {idAt, 1, 1000000000000},
			"Kind":   {kindAt, 1, 2},
			"Phase":  {phaseAt, 1, 3},
			"Weight": {weightAt, 0, 1000000000000},
			"Born":   {bornAt, 0, 1 << 40},
		} {
			for _, n := range numbersAround(c.most) {
				p := replaced(b, c.at, num(n))
				if got, ok := taken(p); ok != (n >= c.least && n <= c.most) || !ok && !none(got) {
					t.Errorf("%s: %s %d: %v %v", what, place, n, got, ok)
				}
				holdsToTheWords(t, fmt.Sprintf("%s: %s %d", what, place, n), p)
			}
		}
	}
}

// numbersAround tells numbers within and above a bound, also such as would come within it if a number were kept in fewer bits.
func numbersAround(most uint64) []uint64 {
	all := []uint64{0, 1, 2, 3, 4, 63, 64, 65, most / 2, most - 1, most, most + 1, most + 2, math.MaxInt64, math.MaxInt64 + 1, math.MaxInt64 + 2, math.MaxUint64 - 1, math.MaxUint64}
	for _, bit := range []int{8, 16, 31, 32, 40, 63} {
		all = append(all, 1<<bit, 1<<bit+1, 1<<bit+2)
	}
	return all
}

// TestTakeOfNumbersThatAreWrittenLonger: Put writes each number in one way alone.
func TestTakeOfNumbersThatAreWrittenLonger(t *testing.T) {
	for _, b := range []api.Batch{some(), leanest(), fullest()} {
		for at, part := range partsOf(b) {
			_, size := binary.Uvarint(part)
			longer := bytes.Clone(part[:size])
			longer[size-1] |= 128
			for _, tail := range []string{"\x00", "\x80\x00", "\x80\x80\x80\x80\x80\x80\x80\x80\x80\x00"} {
				takesNone(t, fmt.Sprintf("part %d", at), replaced(b, at, slices.Concat(longer, []byte(tail), part[size:])))
			}
		}
	}
}

func TestTakeOfTooManyMembers(t *testing.T) {
	for _, n := range []int{65, 66, 127, 128, 256, 257, 1 << 12} {
		takesNone(t, fmt.Sprintf("%d members", n), bytesByWords(with(func(b *api.Batch) { b.Members = ids(n) })))
	}
	for members := range 65 {
		b := with(func(b *api.Batch) { b.Members = ids(members) })
		for n := range uint64(130) {
			p := replaced(b, countAt, num(n))
			if n <= uint64(members) {
				b := b
				b.Members = b.Members[:n]
				takes(t, "no more than there are", p, b)
			} else {
				takesNone(t, fmt.Sprintf("%d members, told to be %d", members, n), p)
			}
		}
		for _, n := range numbersAround(64) {
			holdsToTheWords(t, fmt.Sprintf("%d members, told to be %d", members, n), replaced(b, countAt, num(n)))
		}
	}
}

// TestTakeOfOneTwice: a Member that stands twice makes no batch, wherever the two stand.
func TestTakeOfOneTwice(t *testing.T) {
	for i := range 64 {
		for j := range i {
			b := with(func(b *api.Batch) { b.Members = ids(64) })
			takesNone(t, fmt.Sprintf("members %d and %d", j, i), replaced(b, membersAt+i, txt(b.Members[j])))
		}
	}
}

// TestTakeOfLongTexts: a label of 16 signs may have 32 bytes, and no length is taken at its word.
func TestTakeOfLongTexts(t *testing.T) {
	for _, at := range []int{carrierAt, zoneAt, serviceAt, membersAt, membersAt + 1, membersAt + 2} {
		for _, s := range append(slices.Clone(rightLabels), wrongLabels...) {
			holdsToTheWords(t, fmt.Sprintf("part %d is %.40q", at, s), replaced(some(), at, txt(s)))
		}
		for _, n := range numbersAround(32) {
			if n > 33 {
				takesNone(t, fmt.Sprintf("part %d of %d bytes", at, n), replaced(some(), at, append(num(n), "abc"...)))
			}
		}
	}
}

// TestTakesShareNoMemory: a batch that was taken stays, whatever becomes of the bytes it was taken of and of other batches.
func TestTakesShareNoMemory(t *testing.T) {
	for i, b := range rightBatches() {
		p := Put(nil, b)
		was := bytes.Clone(p)
		first, _ := taken(p)
		second, _ := taken(p)
		if !bytes.Equal(p, was) {
			t.Errorf("batch %d: its bytes are changed", i)
		}
		clear(p)
		scribble(first.Members)
		if !Same(second, b) {
			t.Errorf("batch %d: %v", i, second)
		}
	}
	r := packet.New(Put(Put(nil, fullest()), fullest()))
	first, _ := Take(r)
	scribble(first.Members)
	if second, ok := Take(r); !Same(second, fullest()) || !ok {
		t.Errorf("the second one: %v %v", second, ok)
	}
}

// TestTakeHoldsToTheWords: batches by chance, with parts changed by chance.
func TestTakeHoldsToTheWords(t *testing.T) {
	chance := rand.New(rand.NewSource(11))
	var batches [][][]byte
	for _, b := range append(rightBatches(), wrongBatches()...) {
		if parts := partsOf(b); len(parts) <= 40 {
			batches = append(batches, parts)
		}
	}
	fine := 0
	for i := range 60000 {
		parts := slices.Clone(batches[chance.Intn(len(batches))])
		for range chance.Intn(3) {
			other := batches[chance.Intn(len(batches))]
			at := chance.Intn(len(parts))
			switch chance.Intn(4) {
			case 0:
				parts[at] = num(uint64(chance.Intn(70)))
			case 1:
				parts[at] = other[chance.Intn(len(other))]
			case 2: // the same place
				parts[at] = other[min(at, len(other)-1)]
			case 3:
				parts = slices.Insert(parts, at, num(uint64(chance.Intn(3))))
			}
		}
		p := bytes.Join(parts, nil)
		if len(p) > 0 && chance.Intn(4) == 0 {
			p[chance.Intn(len(p))] = byte(chance.Intn(256))
		}
		if holdsToTheWords(t, fmt.Sprintf("try %d", i), p) {
			fine++
		}
	}
	if fine < 3000 || fine > 50000 {
		t.Errorf("only one side is tried: %d are RIGHT", fine)
	}
}
