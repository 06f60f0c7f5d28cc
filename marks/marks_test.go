package marks

import (
	"bytes"
	"encoding/binary"
	"fmt"
	"math"
	"slices"
	"testing"

	"packhorse/api"
	"packhorse/plate"
)

var (
	noSides   = []int{math.MinInt, -1 << 32, -2, -1, 2, 3, 4, 1 << 31, 1 << 32, 1<<32 + 1, math.MaxInt}
	rounds    = []uint64{1, 2, 3, 255, 256, 300, 65535, 65536, 1 << 32, 1<<40 - 1, api.MaxRound}
	noRounds  = []uint64{0, api.MaxRound + 1, api.MaxRound * 2, 1<<48 - 1, 1 << 48, 1<<48 + 1, 1 << 63, math.MaxUint64}
	tooLong   = []int{49, 50, 56, 64, 65, 1000, 65536}
	allNumber = uint64(math.MaxUint64)
)

// mark tells the mark of a round and a place by the chapter's words.
func mark(round uint64, at int) uint64 {
	return 65536*round + uint64(at) + 1
}

// raw tells a cell of any two numbers.
func raw(first uint64, inner []byte, last uint64) api.Cell {
	b := binary.LittleEndian.AppendUint64(nil, first)
	b = append(b, padded(inner)...)
	return api.Cell(binary.LittleEndian.AppendUint64(b, last))
}

// bearing tells a cell that bears a mark.
func bearing(m uint64, inner string) api.Cell {
	return raw(m, []byte(inner), m)
}

func padded(inner []byte) []byte {
	return append(slices.Clone(inner), make([]byte, 48-len(inner))...)
}

// rising tells n bytes that are unlike their neighbours, none of the first of them 0.
func rising(n int) []byte {
	b := make([]byte, n)
	for i := range b {
		b[i] = byte(i + 1)
	}
	return b
}

// plateOf tells a plate of these cells, all of them sure.
func plateOf(t *testing.T, cells ...api.Cell) *plate.Plate {
	t.Helper()
	p := plate.New(len(cells))
	for i, c := range cells {
		if errno := p.Put(i, c); errno != api.OK {
			t.Fatal(errno)
		}
	}
	if errno := p.Flush(); errno != api.OK {
		t.Fatal(errno)
	}
	return p
}

// dirty tells a plate of n cells no byte of which is 0.
func dirty(t *testing.T, n int) *plate.Plate {
	t.Helper()
	cells := make([]api.Cell, n)
	for i := range cells {
		for b := range cells[i] {
			cells[i][b] = 0xee
		}
	}
	return plateOf(t, cells...)
}

func cellsOf(p *plate.Plate) []api.Cell {
	cells := make([]api.Cell, p.Len())
	for i := range cells {
		cells[i], _ = p.Get(i)
	}
	return cells
}

func puts(t *testing.T, p *plate.Plate, side int, round uint64, at int, inner string) {
	t.Helper()
	if errno := Put(p, side, round, at, []byte(inner)); errno != api.OK {
		t.Fatalf("Put of %q on %d for %d at %d: %d", inner, side, round, at, errno)
	}
}

// reads holds what Read tells, each of inners being followed by noughts up to 48 bytes.
func reads(t *testing.T, what string, p *plate.Plate, side int, round uint64, inners ...string) {
	t.Helper()
	r, l := Read(p, side)
	if r != round || len(l) != len(inners) {
		t.Errorf("%s: Read of %d: %d, %q, want %d, %q", what, side, r, l, round, inners)
		return
	}
	for i, inner := range inners {
		if !bytes.Equal(l[i], padded([]byte(inner))) {
			t.Errorf("%s: Read of %d, place %d: %q, want %q", what, side, i, l[i], inner)
		}
	}
}

func tops(t *testing.T, what string, p *plate.Plate, want uint64) {
	t.Helper()
	if top := Top(p); top != want {
		t.Errorf("%s: Top %d, want %d", what, top, want)
	}
}

func TestRoom(t *testing.T) {
	for _, c := range [][2]int{
		{0, 0}, {1, 0}, {2, 1}, {3, 1}, {4, 2}, {5, 2}, {8, 4}, {9, 4}, {4093, 2046}, {4094, 2047}, {4095, 2047}, {4096, 2048},
		{-1, 0}, {4097, 2048},
	} {
		p := plate.New(c[0])
		if Room(p) != c[1] {
			t.Errorf("Room of %d cells: %d, want %d", c[0], Room(p), c[1])
		}
		p.Limit(0)
		p.Flush()
		if Room(p) != c[1] {
			t.Errorf("Room of %d cells without power: %d, want %d", c[0], Room(p), c[1])
		}
		p = dirty(t, p.Len())
		if Room(p) != c[1] {
			t.Errorf("Room of %d written cells: %d, want %d", c[0], Room(p), c[1])
		}
	}
}

func TestTheExample(t *testing.T) {
	for side := range 2 {
		p := plate.New(6)
		puts(t, p, side, 1, 0, "ab")
		reads(t, "the example", p, side, 1, "ab")
		reads(t, "the other side", p, 1-side, 0)
		tops(t, "the example", p, 1)
	}
}

// TestPutWritesOneCell: at each place of either side, over what was there, and nowhere else.
func TestPutWritesOneCell(t *testing.T) {
	for _, n := range []int{2, 3, 4, 5, 9} {
		for side := range 2 {
			for at := range n / 2 {
				for _, round := range rounds {
					p := dirty(t, n)
					want := cellsOf(p)
					want[side*(n/2)+at] = raw(mark(round, at), rising(7), mark(round, at))
					errno := Put(p, side, round, at, rising(7))
					if errno != api.OK || p.Loose() != 1 || p.Off() || !slices.Equal(cellsOf(p), want) {
						t.Errorf("%d cells, side %d, round %d, at %d: %d, loose %d, off %v, %v", n, side, round, at, errno, p.Loose(), p.Off(), cellsOf(p))
					}
				}
			}
		}
	}
}

func TestPutOnTheGreatestPlates(t *testing.T) {
	for _, n := range []int{4095, 4096} {
		p, want := dirty(t, n), dirty(t, n)
		room := n / 2
		for side := range 2 {
			for _, at := range []int{0, 1, 255, 256, 1023, room - 2, room - 1} {
				puts(t, p, side, api.MaxRound, at, "x")
				m := uint64(1)<<56 + uint64(at) + 1
				want.Put(side*room+at, bearing(m, "x"))
			}
			refuses(t, p, side, 1, room, nil)
			refuses(t, p, side, 1, -1, nil)
		}
		if !slices.Equal(cellsOf(p), cellsOf(want)) {
			t.Errorf("%d cells: other cells than those of the chapter's words", n)
		}
		tops(t, "0xee everywhere", p, 0xeeeeeeeeeeee)
	}
}

// TestPutOfTheBytes tells the bytes themselves, one by one.
func TestPutOfTheBytes(t *testing.T) {
	p := plate.New(10)
	puts(t, p, 1, 0x0807060504, 2, "ab")
	c, _ := p.Get(7)
	want := api.Cell{3, 0, 4, 5, 6, 7, 8, 0, 'a', 'b'}
	copy(want[56:], []byte{3, 0, 4, 5, 6, 7, 8, 0})
	if c != want {
		t.Errorf("%v, want %v", c, want)
	}
	puts(t, p, 0, api.MaxRound, 4, "")
	c, _ = p.Get(4)
	want = api.Cell{5, 0, 0, 0, 0, 0, 0, 1}
	copy(want[56:], []byte{5, 0, 0, 0, 0, 0, 0, 1})
	if c != want {
		t.Errorf("%v, want %v", c, want)
	}
}

// TestPutOfInner: any bytes up to 48, with noughts behind them whatever stood there.
func TestPutOfInner(t *testing.T) {
	for n := range 49 {
		p := dirty(t, 4)
		if errno := Put(p, 1, 9, 1, rising(n)); errno != api.OK {
			t.Errorf("%d bytes: %d", n, errno)
		}
		c, _ := p.Get(3)
		if want := raw(mark(9, 1), rising(n), mark(9, 1)); c != want {
			t.Errorf("%d bytes: %v, want %v", n, c, want)
		}
	}
	for _, inner := range [][]byte{nil, {}, make([]byte, 48)} {
		p := dirty(t, 4)
		Put(p, 0, 9, 0, inner)
		if c, _ := p.Get(0); c != bearing(mark(9, 0), "") {
			t.Errorf("none, or noughts: %v", c)
		}
	}
}

// refuses holds that ErrMark comes, ahead of the plate's errors, and that nothing has changed: the cells, what is loose, the power, and how many writes are left.
func refuses(t *testing.T, p *plate.Plate, side int, round uint64, at int, inner []byte) {
	t.Helper()
	was, loose, off := cellsOf(p), p.Loose(), p.Off()
	errno := Put(p, side, round, at, inner)
	if errno != api.ErrMark || p.Loose() != loose || p.Off() != off || !slices.Equal(cellsOf(p), was) {
		t.Errorf("%d cells, side %d, round %d, at %d, %d bytes: %d, loose %d, off %v", p.Len(), side, round, at, len(inner), errno, p.Loose(), p.Off())
	}
}

func refusesAll(t *testing.T, p *plate.Plate) {
	t.Helper()
	room := p.Len() / 2
	for _, side := range noSides {
		for _, at := range []int{0, room - 1, room} {
			refuses(t, p, side, 1, at, nil)
		}
	}
	for _, round := range noRounds {
		refuses(t, p, 0, round, 0, nil)
		refuses(t, p, 1, round, room-1, nil)
	}
	noPlaces := []int{math.MinInt, -1 << 32, -room - 1, -room, -2, -1, room, room + 1, 2 * room, 2*room + 1, 4096, 65536, 1 << 32, math.MaxInt}
	for _, at := range noPlaces {
		refuses(t, p, 0, 1, at, nil)
		refuses(t, p, 1, 1, at, []byte("x"))
		refuses(t, p, 1, api.MaxRound, at, rising(48))
	}
	for _, n := range tooLong {
		refuses(t, p, 0, 1, 0, rising(n))
		refuses(t, p, 1, 5, room-1, make([]byte, n))
	}
	refuses(t, p, 2, 0, room, rising(49))
}

func TestPutRefuses(t *testing.T) {
	for _, n := range []int{0, 1, 2, 3, 8, 9} {
		p := dirty(t, n)
		refusesAll(t, p)
		// No write is spent, and none that is wanting turns the power off.
		p.Limit(1)
		refusesAll(t, p)
		if errno := p.Flush(); errno != api.OK {
			t.Errorf("%d cells: a refused Put spent a write", n)
		}
		refusesAll(t, p)
		p.Flush()
		if !p.Off() {
			t.Fatal("there is power")
		}
		refusesAll(t, p)
	}
}

func TestPutWhereNoPlaceIs(t *testing.T) {
	for _, n := range []int{0, 1} {
		p := dirty(t, n)
		for side := range 2 {
			refuses(t, p, side, 1, 0, nil)
			p.Limit(0)
			refuses(t, p, side, 1, 0, nil)
		}
	}
}

// TestPutOfThePlatesErrors: what the plate says of a Put that has a place.
func TestPutOfThePlatesErrors(t *testing.T) {
	p := plate.New(5)
	p.Limit(2)
	puts(t, p, 0, 4, 0, "a")
	puts(t, p, 0, 4, 1, "b")
	was := cellsOf(p)
	for range 3 {
		for side := range 2 {
			errno := Put(p, side, api.MaxRound, 1, rising(48))
			if errno != api.ErrOff || !p.Off() || p.Loose() != 2 || !slices.Equal(cellsOf(p), was) {
				t.Errorf("no write left: %d, off %v, loose %d, %v", errno, p.Off(), p.Loose(), cellsOf(p))
			}
		}
		p.Limit(-1)
	}
	refuses(t, p, 0, 4, 2, nil)
	reads(t, "without power", p, 0, 4, "a", "b")
	tops(t, "without power", p, 4)
	p.Fail([]byte{3}, -1, 0)
	puts(t, p, 1, 5, 0, "c")
	reads(t, "with power", p, 1, 5, "c")
	tops(t, "with power", p, 5)
}

func TestReadOfNone(t *testing.T) {
	full := plate.New(9)
	for at := range 4 {
		puts(t, full, 0, 3, at, "x")
		puts(t, full, 1, 2, at, "y")
	}
	for _, side := range noSides {
		reads(t, "no such side", full, side, 0)
		reads(t, "no such side, no cells", plate.New(0), side, 0)
		reads(t, "no such side, one cell", plateOf(t, bearing(mark(1, 0), "x")), side, 0)
	}
	for side := range 2 {
		reads(t, "no cells", plate.New(0), side, 0)
		reads(t, "one cell", plate.New(1), side, 0)
		reads(t, "one cell, that has a mark and is on no side", plateOf(t, bearing(mark(1, 0), "x")), side, 0)
		for _, n := range []int{2, 3, 8, 4096} {
			reads(t, "noughts", plate.New(n), side, 0)
			reads(t, "0xee everywhere", dirty(t, n), side, 0)
		}
	}
}

// TestReadOfTheFirst: which cells at the place 0 bear a round, and which one.
func TestReadOfTheFirst(t *testing.T) {
	second := bearing(mark(7, 1), "two")
	for _, c := range []struct {
		what  string
		cell  api.Cell
		round uint64
	}{
		{"no mark", raw(mark(7, 0), []byte("one"), mark(6, 0)), 0},
		{"no mark, one bit", raw(mark(7, 0), []byte("one"), mark(7, 0)^1<<63), 0},
		{"no mark, the lowest bit", raw(mark(7, 0)^1, []byte("one"), mark(7, 0)), 0},
		{"the first number alone", raw(mark(7, 0), []byte("one"), 0), 0},
		{"the last number alone", raw(0, []byte("one"), mark(7, 0)), 0},
		{"another place", bearing(mark(7, 1), "one"), 0},
		{"the place ahead", bearing(mark(7, 0)-1, "one"), 0},
		{"the last place there could be", bearing(mark(7, 2047), "one"), 0},
		{"a place beyond all", bearing(mark(7, 0)-2, "one"), 0},
		{"round 0", bearing(1, "one"), 0},
		{"round 0, another place", bearing(2, "one"), 0},
		{"nought", bearing(0, "one"), 0},
		{"below the first round", bearing(mark(1, 0)-1, "one"), 0},
		{"above the last round", bearing(mark(api.MaxRound+1, 0), "one"), 0},
		{"above the last round, another place", bearing(mark(api.MaxRound, 65535), "one"), 0},
		{"the greatest that is of a place 0", bearing(mark(1<<48-1, 0), "one"), 0},
		{"the greatest number", bearing(allNumber, "one"), 0},
		{"the highest bit besides", bearing(mark(7, 0)|1<<63, "one"), 0},
		{"the first round", bearing(mark(1, 0), "one"), 1},
		{"the round 7", bearing(mark(7, 0), "one"), 7},
		{"the last round", bearing(mark(api.MaxRound, 0), "one"), api.MaxRound},
	} {
		var want []string
		if c.round != 0 {
			want = []string{"one"}
		}
		if c.round == 7 {
			want = []string{"one", "two"}
		}
		reads(t, c.what, plateOf(t, c.cell, second, second, second, second), 0, c.round, want...)
		reads(t, c.what, plateOf(t, second, second, c.cell, second, second), 1, c.round, want...)
		reads(t, c.what+", two cells", plateOf(t, c.cell, bearing(mark(2, 0), "b")), 1, 2, "b")
	}
	for _, round := range rounds {
		reads(t, "a round", plateOf(t, bearing(mark(round, 0), "one"), second), 0, round, "one")
	}
}

// TestReadUpToTheFirstOfAnother: cells that are behind such a one aren't told, though they bear the round.
func TestReadUpToTheFirstOfAnother(t *testing.T) {
	inners := []string{"zero", "one", "two", "three"}
	for _, round := range rounds {
		for stop := 1; stop < 4; stop++ {
			m := mark(round, stop)
			for what, c := range map[string]api.Cell{
				"the round below":       bearing(m-65536, "no"),
				"the round above":       bearing(m+65536, "no"),
				"the place ahead":       bearing(m-1, "no"),
				"the place behind":      bearing(m+1, "no"),
				"the place 0":           bearing(mark(round, 0), "no"),
				"no mark, at the end":   raw(m, []byte("no"), m+65536),
				"no mark, at the front": raw(m+65536, []byte("no"), m),
				"the first one alone":   raw(m, []byte("no"), 0),
				"the last one alone":    raw(0, []byte("no"), m),
				"noughts":               {},
			} {
				for side := range 2 {
					p := plate.New(8)
					for at, inner := range inners {
						puts(t, p, side, round, at, inner)
						puts(t, p, 1-side, 11, at, "other")
					}
					what := fmt.Sprintf("%s, round %d, place %d", what, round, stop)
					reads(t, what+", ahead", p, side, round, inners...)
					p.Put(side*4+stop, c)
					reads(t, what, p, side, round, inners[:stop]...)
					reads(t, what, p, 1-side, 11, "other", "other", "other", "other")
				}
			}
		}
	}
}

// TestReadStaysOnItsSide: what stands behind the last cell of a side isn't told, though it bears the round and the next place.
func TestReadStaysOnItsSide(t *testing.T) {
	for _, n := range []int{2, 3, 4, 5} {
		p := plate.New(n)
		room := n / 2
		var want []string
		for at := range room {
			want = append(want, fmt.Sprint(at))
		}
		for i := range n {
			p.Put(i, bearing(mark(8, i), fmt.Sprint(i)))
		}
		reads(t, "behind the side 0", p, 0, 8, want...)
		reads(t, "behind the side 0", p, 1, 0)
		for i := room; i < n; i++ {
			p.Put(i, bearing(mark(9, i-room), fmt.Sprint(i-room)))
		}
		reads(t, "behind the side 1", p, 0, 8, want...)
		reads(t, "behind the side 1", p, 1, 9, want...)
	}
}

func TestReadOfWholeSides(t *testing.T) {
	for _, n := range []int{2, 3, 9, 4095, 4096} {
		p := plate.New(n)
		for at := range n / 2 {
			puts(t, p, 0, 1, at, fmt.Sprintf("%048d", at))
			puts(t, p, 1, api.MaxRound, at, fmt.Sprintf("%d", at))
		}
		for _, what := range []string{"loose", "sure"} {
			r, l := Read(p, 0)
			s, m := Read(p, 1)
			if r != 1 || s != api.MaxRound || len(l) != n/2 || len(m) != n/2 {
				t.Fatalf("%s, %d cells: %d, %d, %d, %d", what, n, r, len(l), s, len(m))
			}
			for at := range n / 2 {
				if string(l[at]) != fmt.Sprintf("%048d", at) || !bytes.Equal(m[at], padded([]byte(fmt.Sprint(at)))) {
					t.Errorf("%s, %d cells, place %d: %q, %q", what, n, at, l[at], m[at])
				}
			}
			tops(t, what, p, api.MaxRound)
			if what == "loose" && p.Loose() != n/2*2 {
				t.Errorf("%d cells: %d are loose", n, p.Loose())
			}
			p.Flush()
		}
	}
}

// TestReadTellsWhatWasWrittenLast, and what is left behind Fail.
func TestReadTellsWhatWasWrittenLast(t *testing.T) {
	p := plate.New(4)
	puts(t, p, 0, 5, 0, "a")
	puts(t, p, 0, 5, 1, "b")
	p.Flush()
	puts(t, p, 0, 5, 0, "c")
	reads(t, "loose", p, 0, 5, "c", "b")
	puts(t, p, 0, 5, 1, "d")
	p.Fail([]byte{2}, -1, 0)
	reads(t, "behind Fail", p, 0, 5, "a", "d")
	puts(t, p, 0, 4, 0, "e")
	reads(t, "a round below", p, 0, 4, "e")
	tops(t, "a round below", p, 5)
}

func TestTop(t *testing.T) {
	for _, n := range []int{0, 1, 2, 3, 4096} {
		tops(t, "noughts", plate.New(n), 0)
	}
	for _, c := range []struct{ number, want uint64 }{
		{0, 0}, {1, 0}, {65535, 0}, {65536, 1}, {65537, 1}, {131071, 1}, {131072, 2},
		{mark(300, 5), 300}, {mark(api.MaxRound, 0), api.MaxRound}, {mark(api.MaxRound, 2047), api.MaxRound},
		{mark(api.MaxRound+1, 0), api.MaxRound + 1}, {1 << 63, 1 << 47}, {allNumber - 65536, 1<<48 - 2},
		{allNumber - 65535, 1<<48 - 1}, {allNumber, 1<<48 - 1},
	} {
		for _, n := range []int{1, 2, 3, 4, 5, 7} {
			for i := range n {
				for what, cell := range map[string]api.Cell{
					"at the front": raw(c.number, rising(48), 0),
					"at the end":   raw(0, rising(48), c.number),
					"at both":      raw(c.number, rising(48), c.number),
				} {
					p := plate.New(n)
					p.Put(i, cell)
					tops(t, fmt.Sprintf("%d %s, cell %d of %d", c.number, what, i, n), p, c.want)
				}
			}
		}
	}
}

// TestTopOfMany: the greatest one counts, wherever it stands among smaller ones.
func TestTopOfMany(t *testing.T) {
	for i := range 7 {
		for end := range 2 {
			p := plate.New(7)
			for k := range 7 {
				p.Put(k, raw(mark(uint64(40+k), k), rising(48), mark(uint64(50+k), k)))
			}
			tops(t, "rising", p, 56)
			numbers := [2]uint64{mark(1, 0), mark(2, 0)}
			numbers[end] = mark(99, 0)
			p.Put(i, raw(numbers[0], rising(48), numbers[1]))
			tops(t, fmt.Sprintf("the greatest in %d, end %d", i, end), p, 99)
		}
	}
	all := bytes.Repeat([]byte{255}, 48)
	tops(t, "what is inside counts for nothing", plateOf(t, raw(65536, all, 65536), raw(0, all, 0)), 1)
}

// TestTopTellsWhatWasWrittenLast: without power too, and behind Fail what is left.
func TestTopTellsWhatWasWrittenLast(t *testing.T) {
	p := plate.New(4)
	puts(t, p, 0, 5, 0, "a")
	p.Flush()
	puts(t, p, 1, 9, 1, "b")
	tops(t, "loose", p, 9)
	p.Fail(nil, -1, 0)
	tops(t, "lost", p, 5)
	puts(t, p, 0, 3, 0, "c")
	tops(t, "written over", p, 3)
	p.Limit(0)
	p.Flush()
	tops(t, "off", p, 3)
	reads(t, "off", p, 0, 3, "c")
}

// TestAskingWritesNothing: Room, Read and Top leave the plate as it was.
func TestAskingWritesNothing(t *testing.T) {
	p := plate.New(5)
	puts(t, p, 0, 5, 0, "a")
	p.Limit(1)
	was := cellsOf(p)
	for range 3 {
		for _, side := range append([]int{0, 1}, noSides...) {
			Read(p, side)
		}
		Room(p)
		Top(p)
	}
	if p.Loose() != 1 || p.Off() || !slices.Equal(cellsOf(p), was) {
		t.Errorf("loose %d, off %v, %v", p.Loose(), p.Off(), cellsOf(p))
	}
	puts(t, p, 0, 5, 1, "b")
	if errno := Put(p, 0, 5, 1, nil); errno != api.ErrOff {
		t.Errorf("one write was left, and then none: %d", errno)
	}
}

// TestInnerIsLeftAsItWas: spare room too, which counts for nothing, and what is handed in isn't kept.
func TestInnerIsLeftAsItWas(t *testing.T) {
	for _, n := range []int{0, 1, 3, 47, 48, 49, 64} {
		room := bytes.Repeat([]byte{0xab}, 200)
		inner := room[:n]
		p := dirty(t, 4)
		errno := Put(p, 1, 6, 1, inner)
		if !bytes.Equal(room, bytes.Repeat([]byte{0xab}, 200)) {
			t.Errorf("%d bytes: what was handed in is changed", n)
		}
		if n > 48 {
			if errno != api.ErrMark {
				t.Errorf("%d bytes: %d", n, errno)
			}
			continue
		}
		want := raw(mark(6, 1), bytes.Repeat([]byte{0xab}, n), mark(6, 1))
		clear(room)
		if c, _ := p.Get(3); c != want {
			t.Errorf("%d bytes, written over behind the call: %v, want %v", n, c, want)
		}
	}
}

// overwrite fills a list of an answer, spare room too.
func overwrite(b []byte, v byte) {
	b = b[:cap(b)]
	for i := range b {
		b[i] = v
	}
}

func TestAnswersShareNothing(t *testing.T) {
	p := plate.New(8)
	want := []string{"a", "b", "c", "d"}
	for at, inner := range want {
		puts(t, p, 0, 2, at, inner)
		puts(t, p, 1, 3, at, inner)
	}
	_, first := Read(p, 0)
	_, second := Read(p, 0)
	_, other := Read(p, 1)
	for i := range first {
		overwrite(first[i], byte(100+i))
		for k := i + 1; k < len(first); k++ {
			if !bytes.Equal(first[k], padded([]byte(want[k]))) {
				t.Errorf("the places %d and %d share memory", i, k)
			}
		}
	}
	for i, b := range first {
		if !bytes.Equal(b, bytes.Repeat([]byte{byte(100 + i)}, 48)) {
			t.Errorf("the place %d shares memory with one behind it: %v", i, b)
		}
	}
	clear(first[:cap(first)])
	for _, l := range [][][]byte{second, other} {
		for i, b := range l {
			if !bytes.Equal(b, padded([]byte(want[i]))) {
				t.Errorf("the place %d shares memory with another answer's", i)
			}
		}
	}
	reads(t, "answers written over", p, 0, 2, want...)
	reads(t, "answers written over", p, 1, 3, want...)
	for at := range 4 {
		puts(t, p, 0, 9, at, "z")
	}
	p.Flush()
	if !bytes.Equal(second[0], padded([]byte("a"))) {
		t.Errorf("what was told is changed by a Put: %v", second[0])
	}
}
