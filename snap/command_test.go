package snap

import (
	"bytes"
	"encoding/binary"
	"fmt"
	"math"
	"math/rand"
	"slices"
	"testing"

	"packhorse/api"
)

func num(n uint64) []byte { return binary.AppendUvarint(nil, n) }

func txt(s string) []byte { return append(num(uint64(len(s))), s...) }

func bit(yes bool) []byte { return num(map[bool]uint64{true: 1}[yes]) }

// commandParts tells a command's bytes by the chapter's own words, number by number and text by text, with the library's numbers.
func commandParts(c api.Command) [][]byte {
	all := [][]byte{num(uint64(c.Kind))}
	add := map[string]func(){
		"Id": func() { all = append(all, txt(c.Id)) },
		"Lines": func() {
			all = append(all, num(uint64(len(c.Lines))))
			for _, l := range c.Lines {
				all = append(all, txt(l.Sku), num(uint64(l.Qty)), num(uint64(l.Weight)))
			}
		},
		"Group":  func() { all = append(all, txt(c.Group.Carrier), txt(c.Group.Zone), txt(c.Group.Service)) },
		"Total":  func() { all = append(all, num(uint64(c.Total))) },
		"Number": func() { all = append(all, num(uint64(c.Number))) },
		"Yes":    func() { all = append(all, bit(c.Yes)) },
	}
	for _, field := range hasByWords(c.Kind) {
		add[field]()
	}
	return all
}

func commandByWords(c api.Command) []byte {
	return bytes.Join(commandParts(c), nil)
}

// loose reads what may be numbers and texts, and never minds what they are.
type loose struct {
	rest []byte
	bad  bool
}

func (l *loose) number() uint64 {
	n, size := binary.Uvarint(l.rest)
	if l.bad || size <= 0 {
		l.bad = true
		return 0
	}
	l.rest = l.rest[size:]
	return n
}

func (l *loose) text() string {
	n := l.number()
	if l.bad || n > uint64(len(l.rest)) {
		l.bad = true
		return ""
	}
	s := string(l.rest[:n])
	l.rest = l.rest[n:]
	return s
}

func (l *loose) lines() []api.Line {
	var all []api.Line
	for n := l.number(); n > 0 && !l.bad; n-- {
		all = append(all, api.Line{Sku: l.text(), Qty: int64(l.number()), Weight: int64(l.number())})
	}
	return all
}

func (l *loose) group() api.Group {
	return api.Group{Carrier: l.text(), Zone: l.text(), Service: l.text()}
}

// toldByWords tells the RIGHT command whose bytes b is, and whether there is one: it reads what b may mean, and asks whether that is RIGHT and written so.
func toldByWords(b []byte) (api.Command, bool) {
	l := &loose{rest: b}
	c := api.Command{Kind: int(l.number())}
	read := map[string]func(){
		"Id":     func() { c.Id = l.text() },
		"Lines":  func() { c.Lines = l.lines() },
		"Group":  func() { c.Group = l.group() },
		"Total":  func() { c.Total = int64(l.number()) },
		"Number": func() { c.Number = int64(l.number()) },
		"Yes":    func() { c.Yes = l.number() == 1 },
	}
	for _, field := range hasByWords(c.Kind) {
		read[field]()
	}
	if l.bad || !rightByWords(c) || !bytes.Equal(commandByWords(c), b) {
		return api.Command{}, false
	}
	return c, true
}

func tells(t *testing.T, what string, b []byte, want api.Command) {
	t.Helper()
	if c, errno := Told(b); !Same(c, want) || errno != api.OK {
		t.Errorf("%s: %v %d, want %v", what, c, errno, want)
	}
}

func tellsNone(t *testing.T, what string, b []byte) {
	t.Helper()
	if c, errno := Told(b); !Same(c, api.Command{}) || errno != api.ErrSnap {
		t.Errorf("%s: %v %d", what, c, errno)
	}
}

// toldHolds holds Told of b against toldByWords, and tells whether there is such a command.
func toldHolds(t *testing.T, what string, b []byte) bool {
	t.Helper()
	want, there := toldByWords(b)
	if there {
		tells(t, what, b, want)
	} else {
		tellsNone(t, what, b)
	}
	return there
}

// written are commands beside their bytes, which are written out by hand.
func written() map[string]api.Command {
	return map[string]api.Command{
		"\x01\x03o-7\x02\x01a\xac\x02\x05\x02β\x01\x00\x03ups\x01n\x04fast\xcf\x0f":     submit(),
		"\x01\x01a\x01\x01b\x01\x00\x01c\x01d\x01e\x00":                                 {Kind: 1, Id: "a", Lines: []api.Line{one("b", 1, 0)}, Group: api.Group{Carrier: "c", Zone: "d", Service: "e"}},
		"\x01\x01a\x01\x01b\xe8\x07\xa0\x8d\x06\x01c\x01d\x01e\x80\xa0\x94\xa5\x8d\x1d": {Kind: 1, Id: "a", Lines: []api.Line{one("b", 1000, 100000)}, Group: api.Group{Carrier: "c", Zone: "d", Service: "e"}, Total: 1000000000000},
		"\x02\x03o-7": {Kind: 2, Id: "o-7"},
		"\x02\x20αβγδεζηθικλμνξοπ":         {Kind: 2, Id: "αβγδεζηθικλμνξοπ"},
		"\x03\x01a\x03ups\x01n\x04fast":    {Kind: 3, Id: "a", Group: near()},
		"\x04\x01":                         {Kind: 4, Number: 1},
		"\x04\x60":                         {Kind: 4, Number: 96},
		"\x05\x01\x00":                     {Kind: 5, Number: 1},
		"\x05\x01\x01":                     {Kind: 5, Number: 1, Yes: true},
		"\x05\x80\x01\x01":                 {Kind: 5, Number: 128, Yes: true},
		"\x05\x80\xa0\x94\xa5\x8d\x1d\x00": {Kind: 5, Number: 1000000000000},
		"\x06":                             {Kind: 6},
		"\x07":                             {Kind: 7},
		"\x08\x02β":                        {Kind: 8, Id: "β"},
	}
}

func TestCommandAndTold(t *testing.T) {
	for b, c := range written() {
		if got := Command(c); string(got) != b {
			t.Errorf("Command of %v: %q, want %q", c, got, b)
		}
		tells(t, fmt.Sprintf("%q", b), []byte(b), c)
	}
}

func TestCommandHoldsToTheWords(t *testing.T) {
	for i, c := range rightCommands() {
		want := commandByWords(c)
		if got := Command(c); !bytes.Equal(got, want) {
			t.Errorf("command %d: %q, want %q", i, got, want)
		}
		c.Lines = emptyForNil(c.Lines)
		if got := Command(c); !bytes.Equal(got, want) {
			t.Errorf("command %d, of an empty list for nil: %q, want %q", i, got, want)
		}
		tells(t, fmt.Sprintf("command %d", i), want, c)
	}
}

func emptyForNil[T any](l []T) []T {
	if l == nil {
		return []T{}
	}
	return l
}

// TestCommandOfWrongOnes: nothing is promised of what it answers, but that it does.
func TestCommandOfWrongOnes(t *testing.T) {
	for _, c := range wrongCommands() {
		if c.Lines != nil {
			c.Lines = append(slices.Clone(c.Lines), one("spare", 1, 1))[:len(c.Lines)]
		}
		was := slices.Clone(c.Lines[:cap(c.Lines)])
		Command(c)
		if !slices.Equal(c.Lines[:cap(c.Lines)], was) {
			t.Error("changed")
		}
	}
	many := submit()
	many.Lines = make([]api.Line, 1<<20)
	Command(many)
	for _, kind := range someKinds {
		many.Kind = kind
		many.Lines = many.Lines[:1<<10]
		Command(many)
	}
}

// TestCommandSharesNoMemory: lines stay as they were, spare room too, and an answer lies in no other one.
func TestCommandSharesNoMemory(t *testing.T) {
	for i, c := range bases() {
		room := append(slices.Clone(c.Lines), one("spare", 9, 9))
		was := slices.Clone(room)
		c.Lines = room[:len(c.Lines)]
		first, second := Command(c), Command(c)
		want := bytes.Clone(second)
		clear(first[:cap(first)])
		if !slices.Equal(room, was) || !bytes.Equal(second, want) {
			t.Errorf("base %d: changed or shared", i)
		}
		clear(room)
		if !bytes.Equal(second, want) {
			t.Errorf("base %d: kept", i)
		}
	}
}

// TestToldSharesNoMemory: bytes stay as they were, spare room too, and a command stays, whatever becomes of them and of another one.
func TestToldSharesNoMemory(t *testing.T) {
	for i, c := range bases() {
		b := commandByWords(c)
		room := append(bytes.Clone(b), "spare room"...)
		was := bytes.Clone(room)
		first, _ := Told(room[:len(b)])
		second, errno := Told(room[:len(b)])
		if !bytes.Equal(room, was) || sharesMemory(first, second, room) {
			t.Errorf("base %d: changed or shared", i)
		}
		clear(room)
		clear(first.Lines[:cap(first.Lines)])
		if !Same(second, c) || errno != api.OK {
			t.Errorf("base %d: kept, %v %d", i, second, errno)
		}
	}
}

func TestToldOfNothing(t *testing.T) {
	tellsNone(t, "nil", nil)
	for _, b := range []string{"", "\x00", "\x09", "\x0a", "\x7f", "\x80", "\x80\x01", "\xff", "\x81\x02", "\x86\x02", "\x00\x00", "\x06\x00", "\x07\x07", "\x06\x06", "some bytes", "\x00\x01a"} {
		tellsNone(t, fmt.Sprintf("%q", b), []byte(b))
	}
	tellsNone(t, "a million noughts", make([]byte, 1<<20))
	tellsNone(t, "a million ones", bytes.Repeat([]byte{1}, 1<<20))
	tellsNone(t, "a million of a number's bytes", bytes.Repeat([]byte{0x80}, 1<<20))
}

// TestToldCutOff: a command that is cut off anywhere is none, also where noughts in place of what is lacking would make it RIGHT.
func TestToldCutOff(t *testing.T) {
	for i, c := range rightCommands() {
		b := commandByWords(c)
		for n := range b {
			tellsNone(t, fmt.Sprintf("command %d, %d bytes of it", i, n), b[:n])
		}
	}
}

func TestToldWithSomethingBehind(t *testing.T) {
	for i, c := range bases() {
		b := commandByWords(c)
		for x := range 256 {
			tellsNone(t, fmt.Sprintf("base %d with %d behind it", i, x), append(bytes.Clone(b), byte(x)))
		}
		for j, other := range bases() {
			tellsNone(t, fmt.Sprintf("base %d with base %d behind it", i, j), slices.Concat(b, commandByWords(other)))
		}
		tellsNone(t, fmt.Sprintf("base %d with much behind it", i), append(bytes.Clone(b), make([]byte, 1<<12)...))
	}
}

func TestToldWithAByteChanged(t *testing.T) {
	right := 0
	for i, c := range bases() {
		b := commandByWords(c)
		for at := range b {
			for x := range 256 {
				changed := bytes.Clone(b)
				changed[at] = byte(x)
				if toldHolds(t, fmt.Sprintf("base %d, byte %d is %d", i, at, x), changed) {
					right++
				}
			}
			toldHolds(t, fmt.Sprintf("base %d without byte %d", i, at), slices.Delete(bytes.Clone(b), at, at+1))
			for _, x := range []byte{0, 1, 2, 'a', 127, 128, 129, 255} {
				toldHolds(t, fmt.Sprintf("base %d with %d at %d", i, x, at), slices.Insert(bytes.Clone(b), at, x))
			}
		}
	}
	if right < 1000 {
		t.Errorf("only %d are RIGHT", right)
	}
}

// TestToldOfWrongOnes: what isn't RIGHT is none, though it is written as Command writes.
func TestToldOfWrongOnes(t *testing.T) {
	none := 0
	for i, c := range wrongCommands() {
		b := commandByWords(c)
		// Where a field is turned that the kind hasn't, the bytes are those of a RIGHT one.
		if !toldHolds(t, fmt.Sprintf("command %d", i), b) {
			none++
		}
	}
	if none < 1000 {
		t.Errorf("only %d are none", none)
	}
}

// numbersAround tells numbers within and above a bound, also such as would come within it if a number were kept in fewer bits.
func numbersAround(most uint64) []uint64 {
	all := []uint64{0, 1, 2, 3, 7, 8, 9, 12, 13, most / 2, most - 1, most, most + 1, most + 2, math.MaxInt64, math.MaxInt64 + 1, math.MaxInt64 + 2, math.MaxUint64 - 1, math.MaxUint64}
	for _, shift := range []int{8, 16, 31, 32, 40, 63} {
		all = append(all, 1<<shift, 1<<shift+1, 1<<shift+2)
	}
	return all
}

// replaced tells bytes with one part in place of another.
func replaced(parts [][]byte, at int, by []byte) []byte {
	changed := slices.Clone(parts)
	changed[at] = by
	return bytes.Join(changed, nil)
}

// TestToldAtEachNumber turns each number, also the lengths of texts and the count of lines.
func TestToldAtEachNumber(t *testing.T) {
	for i, c := range bases() {
		parts := commandParts(c)
		for at, part := range parts {
			_, size := binary.Uvarint(part)
			for _, most := range []uint64{1, 8, 32, 96, 1000, 100000, 1000000000000} {
				for _, n := range numbersAround(most) {
					toldHolds(t, fmt.Sprintf("base %d, part %d begins with %d", i, at, n), replaced(parts, at, append(num(n), part[size:]...)))
				}
			}
		}
	}
}

func longer(part []byte, tail string) []byte {
	_, size := binary.Uvarint(part)
	l := bytes.Clone(part[:size])
	l[size-1] |= 128
	return slices.Concat(l, []byte(tail), part[size:])
}

// TestToldOfNumbersThatAreWrittenLonger: Command writes each number in one way alone.
func TestToldOfNumbersThatAreWrittenLonger(t *testing.T) {
	for i, c := range bases() {
		parts := commandParts(c)
		for at, part := range parts {
			for _, tail := range []string{"\x00", "\x80\x00", "\x80\x80\x80\x80\x80\x80\x80\x80\x80\x00"} {
				tellsNone(t, fmt.Sprintf("base %d, part %d", i, at), replaced(parts, at, longer(part, tail)))
			}
		}
	}
}

func TestToldOfYes(t *testing.T) {
	for _, n := range []int64{1, 96, 97, 128, 1000000000000} {
		head := slices.Concat(num(5), num(uint64(n)))
		tells(t, "no", append(bytes.Clone(head), 0), api.Command{Kind: api.DoReply, Number: n})
		tells(t, "yes", append(bytes.Clone(head), 1), api.Command{Kind: api.DoReply, Number: n, Yes: true})
		for _, x := range append(numbersAround(1), 255, 256, 257) {
			if x > 1 {
				tellsNone(t, fmt.Sprintf("a Yes of %d", x), slices.Concat(head, num(x)))
			}
		}
	}
}

func TestToldOfKindsThatAreNone(t *testing.T) {
	for i, c := range bases() {
		rest := commandByWords(c)[1:]
		for _, kind := range slices.Concat(numbersAround(8), []uint64{9, 10, 127, 128, 257, 262, 1<<32 + 1, 1<<32 + 6, 1<<63 + 6, 1 << 7, 1<<7 + 6}) {
			b := slices.Concat(num(kind), rest)
			if kind < 1 || kind > 8 {
				tellsNone(t, fmt.Sprintf("base %d of kind %d", i, kind), b)
			}
			toldHolds(t, fmt.Sprintf("base %d of kind %d", i, kind), b)
		}
	}
}

// TestToldOfCountsThatArent: as many lines as follow, and no other count, however great.
func TestToldOfCountsThatArent(t *testing.T) {
	for n := 1; n <= 9; n++ {
		c := submit()
		c.Lines = row(n)
		parts := commandParts(c)
		for _, count := range append(numbersAround(8), 4, 5, 6) {
			b := replaced(parts, 2, num(count))
			if n <= 8 && count == uint64(n) {
				tells(t, "as many as are told of", b, c)
			} else {
				tellsNone(t, fmt.Sprintf("%d lines, told to be %d", n, count), b)
			}
		}
	}
}

func TestCommandsThereAndBack(t *testing.T) {
	r := rand.New(rand.NewSource(16))
	for i := range 20000 {
		c := commandByChance(r)
		b := Command(c)
		got, errno := Told(b)
		if !Right(c) || !rightByWords(c) || !bytes.Equal(b, commandByWords(c)) || !Same(got, c) || errno != api.OK {
			t.Fatalf("command %d, %v: %q %v %d", i, c, b, got, errno)
		}
	}
}

// TestToldByChance: commands with parts changed by chance.
func TestToldByChance(t *testing.T) {
	r := rand.New(rand.NewSource(161))
	right := 0
	for i := range 60000 {
		parts := commandParts(commandByChance(r))
		for range r.Intn(3) {
			other := commandParts(commandByChance(r))
			at := r.Intn(len(parts))
			switch r.Intn(4) {
			case 0:
				parts[at] = num(uint64(r.Intn(20)))
			case 1:
				parts[at] = other[r.Intn(len(other))]
			case 2: // the same place, from the end
				parts[at] = other[max(0, len(other)-len(parts)+at)]
			case 3:
				parts = slices.Insert(parts, at, num(uint64(r.Intn(3))))
			}
		}
		b := bytes.Join(parts, nil)
		if r.Intn(4) == 0 {
			b[r.Intn(len(b))] = byte(r.Intn(256))
		}
		if toldHolds(t, fmt.Sprintf("try %d", i), b) {
			right++
		}
	}
	if right < 10000 || right > 50000 {
		t.Errorf("only one side is tried: %d are RIGHT", right)
	}
}
