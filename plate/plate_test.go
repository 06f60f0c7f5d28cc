package plate

import (
	"math"
	"slices"
	"testing"

	"packhorse/api"
)

var none = []int{-1, -2, -64, -4096, -4097, -1 << 31, -1 << 32, math.MinInt + 1, math.MinInt}

// full tells a cell whose bytes are all v.
func full(v byte) api.Cell {
	var c api.Cell
	for i := range c {
		c[i] = v
	}
	return c
}

// rising tells a cell no two bytes of which are alike, so that one that stands elsewhere is seen.
func rising(from byte) api.Cell {
	var c api.Cell
	for i := range c {
		c[i] = from + byte(i)
	}
	return c
}

func is(t *testing.T, what string, p *Plate, i int, want api.Cell) {
	t.Helper()
	if c, errno := p.Get(i); c != want || errno != api.OK {
		t.Errorf("%s: Get of %d: %v, %d, want %v", what, i, c, errno, want)
	}
}

func cells(t *testing.T, what string, p *Plate, want ...api.Cell) {
	t.Helper()
	if p.Len() != len(want) {
		t.Errorf("%s: %d cells, want %d", what, p.Len(), len(want))
	}
	for i, c := range want {
		is(t, what, p, i, c)
	}
}

// answers holds one call's answer, and what Loose and Off tell behind it.
func answers(t *testing.T, what string, p *Plate, got, want api.Errno, loose int, off bool) {
	t.Helper()
	if got != want || p.Loose() != loose || p.Off() != off {
		t.Errorf("%s: %d, loose %d, off %v, want %d, %d, %v", what, got, p.Loose(), p.Off(), want, loose, off)
	}
}

func puts(t *testing.T, p *Plate, i int, c api.Cell) {
	t.Helper()
	if errno := p.Put(i, c); errno != api.OK {
		t.Fatalf("Put at %d: %d", i, errno)
	}
}

func flushes(t *testing.T, p *Plate) {
	t.Helper()
	if errno := p.Flush(); errno != api.OK {
		t.Fatalf("Flush: %d", errno)
	}
}

func TestNew(t *testing.T) {
	for _, c := range []struct{ cells, want int }{
		{0, 0}, {1, 1}, {2, 2}, {63, 63}, {64, 64}, {4095, 4095}, {4096, 4096}, {4097, 4096}, {8192, 4096},
		{1 << 31, 4096}, {1 << 32, 4096}, {1<<32 + 1, 4096}, {math.MaxInt - 1, 4096}, {math.MaxInt, 4096},
	} {
		isNew(t, c.cells, c.want)
	}
	for _, n := range none {
		isNew(t, n, 0)
	}
}

func isNew(t *testing.T, cells, want int) {
	t.Helper()
	p := New(cells)
	if p.Len() != want || p.Loose() != 0 || p.Off() {
		t.Errorf("New of %d: %d cells, loose %d, off %v", cells, p.Len(), p.Loose(), p.Off())
	}
	for i := range want {
		is(t, "new", p, i, api.Cell{})
	}
	hasNot(t, p, want)
	// All is sure: a loss of power takes nothing and adds nothing.
	p.Fail([]byte{255}, 0, 64)
	if p.Len() != want {
		t.Errorf("New of %d, Fail: %d cells", cells, p.Len())
	}
	for i := range want {
		is(t, "new, Fail", p, i, api.Cell{})
	}
}

// hasNot asks for cells ahead of the first and behind the last, and tries to write them.
func hasNot(t *testing.T, p *Plate, n int) {
	t.Helper()
	loose, off := p.Loose(), p.Off()
	for _, i := range append([]int{n, n + 1, n + 4096, 1 << 32, math.MaxInt}, none...) {
		if c, errno := p.Get(i); c != (api.Cell{}) || errno != api.ErrPlate {
			t.Errorf("Get of %d of %d: %v, %d", i, n, c, errno)
		}
		answers(t, "Put where no cell is", p, p.Put(i, full(7)), api.ErrPlate, loose, off)
	}
}

func TestNobodyCountsAtFirst(t *testing.T) {
	p := New(1)
	for i := range 10000 {
		puts(t, p, 0, full(byte(i)))
	}
	flushes(t, p)
	answers(t, "many writes", p, p.Put(0, full(1)), api.OK, 1, false)
}

func TestGetOfWhatWasWrittenLast(t *testing.T) {
	p := New(3)
	puts(t, p, 0, rising(1))
	puts(t, p, 2, rising(100))
	cells(t, "loose", p, rising(1), api.Cell{}, rising(100))
	puts(t, p, 0, rising(9))
	cells(t, "loose twice", p, rising(9), api.Cell{}, rising(100))
	flushes(t, p)
	cells(t, "sure", p, rising(9), api.Cell{}, rising(100))
	puts(t, p, 0, full(200))
	puts(t, p, 1, full(201))
	cells(t, "loose above what is sure", p, full(200), full(201), rising(100))
	p.Limit(0)
	answers(t, "none left", p, p.Put(1, full(1)), api.ErrOff, 2, true)
	cells(t, "off", p, full(200), full(201), rising(100))
	hasNot(t, p, 3)
	other := New(3)
	puts(t, other, 1, full(5))
	puts(t, other, 1, api.Cell{})
	cells(t, "nought behind five", other, api.Cell{}, api.Cell{}, api.Cell{})
}

func TestEveryCellIsOne(t *testing.T) {
	for _, n := range []int{1, 2, 4096} {
		p := New(n)
		for i := range n {
			c := full(byte(i))
			c[0] = byte(i / 256)
			puts(t, p, i, c)
		}
		for _, what := range []string{"loose", "sure"} {
			for i := range n {
				c := full(byte(i))
				c[0] = byte(i / 256)
				is(t, what, p, i, c)
			}
			flushes(t, p)
		}
	}
}

func TestLoose(t *testing.T) {
	p := New(2)
	for i := range 20 {
		answers(t, "Put", p, p.Put(i%2, full(3)), api.OK, i+1, false)
	}
	answers(t, "a Put that is refused", p, p.Put(2, full(3)), api.ErrPlate, 20, false)
	answers(t, "Flush", p, p.Flush(), api.OK, 0, false)
	answers(t, "Flush of nothing", p, p.Flush(), api.OK, 0, false)
	answers(t, "the same again", p, p.Put(0, full(3)), api.OK, 1, false)
	p.Limit(0)
	answers(t, "Limit", p, api.OK, api.OK, 1, false)
	answers(t, "a Put without power", p, p.Put(0, full(4)), api.ErrOff, 1, true)
	answers(t, "a Flush without power", p, p.Flush(), api.ErrOff, 1, true)
	p.Fail(nil, -1, 0)
	answers(t, "Fail", p, api.OK, api.OK, 0, false)
}

func TestLimit(t *testing.T) {
	for _, n := range []int{0, 1, 2, 3, 7, 100} {
		p := New(1)
		p.Limit(n)
		for i := range n {
			answers(t, "a write that is left", p, p.Put(0, full(byte(i))), api.OK, i+1, false)
		}
		was, _ := p.Get(0)
		answers(t, "one more", p, p.Put(0, full(255)), api.ErrOff, n, true)
		answers(t, "and again", p, p.Put(0, full(255)), api.ErrOff, n, true)
		answers(t, "and Flush", p, p.Flush(), api.ErrOff, n, true)
		is(t, "refused", p, 0, was)
	}
}

// TestLimitCountsFlushes: a Flush is a write as a Put is, with something loose or nothing.
func TestLimitCountsFlushes(t *testing.T) {
	for n := range 6 {
		for flushed := range n + 1 {
			p := New(1)
			p.Limit(n)
			for i := range n {
				if i < flushed {
					answers(t, "Flush", p, p.Flush(), api.OK, 0, false)
				} else {
					answers(t, "Put", p, p.Put(0, full(9)), api.OK, i-flushed+1, false)
				}
			}
			answers(t, "one Flush more", p, p.Flush(), api.ErrOff, n-flushed, true)
			answers(t, "and a Put", p, p.Put(0, full(8)), api.ErrOff, n-flushed, true)
		}
	}
}

func TestLimitOfNone(t *testing.T) {
	for _, n := range none {
		p := New(1)
		p.Limit(n)
		for i := range 300 {
			answers(t, "nobody counts", p, p.Put(0, full(1)), api.OK, i+1, false)
		}
		p.Limit(1)
		p.Limit(n)
		for range 5 {
			answers(t, "nobody counts any more", p, p.Flush(), api.OK, 0, false)
		}
		p.Limit(0)
		p.Limit(n)
		answers(t, "none was left", p, p.Put(0, full(1)), api.OK, 1, false)
	}
	p := New(1)
	p.Limit(math.MaxInt)
	for i := range 300 {
		answers(t, "the greatest", p, p.Put(0, full(1)), api.OK, i+1, false)
	}
}

// TestLimitAgain: so many are left from now on, whatever was left.
func TestLimitAgain(t *testing.T) {
	for _, c := range [][2]int{{5, 1}, {1, 5}, {3, 3}, {0, 2}, {2, 0}, {5, 0}} {
		p := New(1)
		p.Limit(c[0])
		spent := min(1, c[0])
		for range spent {
			puts(t, p, 0, full(1))
		}
		p.Limit(c[1])
		for i := range c[1] {
			answers(t, "left anew", p, p.Put(0, full(2)), api.OK, spent+i+1, false)
		}
		answers(t, "none left", p, p.Put(0, full(3)), api.ErrOff, spent+c[1], true)
	}
}

// TestRefusedWritesAreNotCounted: where there is no cell, nothing is written, and no power goes.
func TestRefusedWritesAreNotCounted(t *testing.T) {
	p := New(2)
	p.Limit(2)
	hasNot(t, p, 2)
	answers(t, "the first", p, p.Put(0, full(1)), api.OK, 1, false)
	hasNot(t, p, 2)
	answers(t, "the second", p, p.Put(1, full(1)), api.OK, 2, false)
	hasNot(t, p, 2)
	answers(t, "the third", p, p.Put(1, full(2)), api.ErrOff, 2, true)
	hasNot(t, p, 2)
	e := New(0)
	e.Limit(0)
	hasNot(t, e, 0)
	answers(t, "Flush of no cells", e, e.Flush(), api.ErrOff, 0, true)
	hasNot(t, e, 0)
}

// TestLimitBringsNoPower: what is off stays so, however many are left.
func TestLimitBringsNoPower(t *testing.T) {
	for _, n := range append([]int{0, 1, 9, math.MaxInt}, none...) {
		p := New(1)
		p.Limit(1)
		puts(t, p, 0, full(1))
		answers(t, "none left", p, p.Flush(), api.ErrOff, 1, true)
		p.Limit(n)
		answers(t, "Put", p, p.Put(0, full(2)), api.ErrOff, 1, true)
		answers(t, "Flush", p, p.Flush(), api.ErrOff, 1, true)
		is(t, "off", p, 0, full(1))
		p.Fail(nil, -1, 0)
		for i := range 20 {
			answers(t, "on again, and nobody counts", p, p.Put(0, full(3)), api.OK, i+1, false)
		}
	}
}

func TestFlush(t *testing.T) {
	p := New(3)
	puts(t, p, 0, rising(1))
	puts(t, p, 1, rising(2))
	puts(t, p, 0, rising(3))
	flushes(t, p)
	p.Fail(nil, -1, 0)
	cells(t, "sure through Fail", p, rising(3), rising(2), api.Cell{})
	puts(t, p, 2, rising(4))
	p.Limit(0)
	answers(t, "no Flush", p, p.Flush(), api.ErrOff, 1, true)
	p.Fail(nil, -1, 0)
	cells(t, "a Flush that was refused makes nothing sure", p, rising(3), rising(2), api.Cell{})
	answers(t, "Flush of nothing", p, p.Flush(), api.OK, 0, false)
	cells(t, "Flush brings nothing back", p, rising(3), rising(2), api.Cell{})
}

// TestNothingIsShared: what is written is a plate's own, and so is what it told.
func TestNothingIsShared(t *testing.T) {
	p, other := New(2), New(2)
	c := rising(1)
	puts(t, p, 0, c)
	if c != rising(1) {
		t.Errorf("what was handed in is changed: %v", c)
	}
	clear(c[:])
	is(t, "what was handed in is written over", p, 0, rising(1))
	got, _ := p.Get(0)
	clear(got[:])
	is(t, "what was told is written over", p, 0, rising(1))
	flushes(t, p)
	got, _ = p.Get(0)
	puts(t, p, 0, full(9))
	p.Fail([]byte{1}, -1, 0)
	if got != rising(1) {
		t.Errorf("what was told is changed: %v", got)
	}
	cells(t, "another plate", other, api.Cell{}, api.Cell{})
	answers(t, "another plate", other, api.OK, api.OK, 0, false)
	other.Limit(0)
	answers(t, "off", other, other.Flush(), api.ErrOff, 0, true)
	answers(t, "one that has power", p, p.Flush(), api.OK, 0, false)

	keep := append(make([]byte, 0, 8), 1)
	room := keep[:cap(keep)]
	copy(room[1:], []byte{255, 255, 255})
	was := slices.Clone(room)
	for range 12 {
		puts(t, p, 1, full(4))
	}
	puts(t, p, 1, full(5))
	p.Fail(keep, -1, 0)
	if !slices.Equal(room, was) {
		t.Errorf("keep is changed: %v", room)
	}
	clear(room)
	is(t, "keep's spare room counts for nothing", p, 1, full(4))
}
