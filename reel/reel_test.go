package reel

import (
	"bytes"
	"fmt"
	"math"
	"slices"
	"testing"

	"packhorse/api"
	"packhorse/marks"
	"packhorse/packet"
	"packhorse/plate"
)

// told is what Open tells beside a Reel.
type told struct {
	tale  []byte
	words [][]byte
}

// says tells a tale and the words behind it.
func says(tale string, words ...string) told {
	x := told{tale: []byte(tale)}
	for _, w := range words {
		x.words = append(x.words, []byte(w))
	}
	return x
}

func (a told) is(b told) bool {
	return bytes.Equal(a.tale, b.tale) && slices.EqualFunc(a.words, b.words, bytes.Equal)
}

func (a told) String() string {
	return short(a.tale) + fmt.Sprint(len(a.words)) + short(slices.Concat(a.words...))
}

// short tells bytes by their beginning, as a failure needs no more.
func short(b []byte) string {
	return fmt.Sprintf("[%d: %q]", len(b), b[:min(len(b), 20)])
}

// rising tells n bytes none of whose neighbours are alike.
func rising(n int) []byte {
	b := make([]byte, n)
	for i := range b {
		b[i] = byte(i + i/251 + 1)
	}
	return b
}

func openOf(p *plate.Plate) (*Reel, told) {
	r, tale, words := Open(p)
	return r, told{tale, words}
}

// tells holds what Open tells, and that its Reel isn't ready.
func tells(t *testing.T, what string, p *plate.Plate, want told) *Reel {
	t.Helper()
	r, got := openOf(p)
	if !got.is(want) {
		t.Errorf("%s: Open tells %v, want %v", what, got, want)
	}
	if r.Ready() || r.Left() != 0 {
		t.Errorf("%s: Open: ready %v, left %d", what, r.Ready(), r.Left())
	}
	return r
}

// stands holds an answer, and whether the Reel is ready behind it and how many cells are left.
func stands(t *testing.T, what string, r *Reel, got, want api.Errno, ready bool, left int) {
	t.Helper()
	if got != want || r.Ready() != ready || r.Left() != left {
		t.Errorf("%s: %d, ready %v, left %d, want %d, %v, %d", what, got, r.Ready(), r.Left(), want, ready, left)
	}
}

// framed tells a frame as whole cells' bytes, noughts behind it.
func framed(t *testing.T, kind byte, body []byte) []byte {
	t.Helper()
	f, errno := packet.Frame(api.Frame{Kind: kind, Body: body})
	if errno != api.OK {
		t.Fatal(errno)
	}
	return append(f, make([]byte, (48-len(f)%48)%48)...)
}

// lay puts bytes on a side for a round, from a place on, and makes them sure.
func lay(t *testing.T, p *plate.Plate, side int, round uint64, at int, l ...[]byte) {
	t.Helper()
	for chunk := range slices.Chunk(slices.Concat(l...), 48) {
		if errno := marks.Put(p, side, round, at, chunk); errno != api.OK {
			t.Fatal(errno)
		}
		at++
	}
	if errno := p.Flush(); errno != api.OK {
		t.Fatal(errno)
	}
}

// bears holds what layer 8 reads on a side.
func bears(t *testing.T, what string, p *plate.Plate, side int, round uint64, l ...[]byte) {
	t.Helper()
	got, inners := marks.Read(p, side)
	if got != round || !bytes.Equal(slices.Concat(inners...), slices.Concat(l...)) {
		t.Errorf("%s: side %d bears %d, %q, want %d, %q", what, side, got, inners, round, slices.Concat(l...))
	}
}

func cellsOf(p *plate.Plate) []api.Cell {
	cells := make([]api.Cell, p.Len())
	for i := range cells {
		cells[i], _ = p.Get(i)
	}
	return cells
}

// begun tells a Reel that is begun on a new plate.
func begun(t *testing.T, cells int, tale string, words ...string) (*plate.Plate, *Reel) {
	t.Helper()
	p := plate.New(cells)
	r, _ := openOf(p)
	if errno := r.Begin([]byte(tale)); errno != api.OK {
		t.Fatal(errno)
	}
	adds(t, r, words...)
	return p, r
}

func adds(t *testing.T, r *Reel, words ...string) {
	t.Helper()
	for _, w := range words {
		if errno := r.Add([]byte(w)); errno != api.OK {
			t.Fatalf("Add of %s: %d", short([]byte(w)), errno)
		}
	}
}

func flushes(t *testing.T, r *Reel) {
	t.Helper()
	if errno := r.Flush(); errno != api.OK {
		t.Fatalf("Flush: %d", errno)
	}
}

func TestCells(t *testing.T) {
	for _, c := range [][2]int{
		{0, 1}, {1, 1}, {39, 1}, {40, 1}, {41, 2}, {42, 2}, {88, 2}, {89, 3},
		{127, 3}, {128, 3}, {135, 3}, {136, 4}, {16383, 342}, {16384, 342}, {16406, 342}, {16407, 343},
		{65535, 1366}, {65536, 1366}, {65537, 0}, {65538, 0}, {1 << 20, 0}, {1 << 32, 0}, {1<<32 + 1, 0}, {math.MaxInt - 1, 0}, {math.MaxInt, 0},
		{-1, 0}, {-2, 0}, {-40, 0}, {-65536, 0}, {-1 << 32, 0}, {math.MinInt + 1, 0}, {math.MinInt, 0},
	} {
		if got := Cells(c[0]); got != c[1] {
			t.Errorf("Cells of %d: %d, want %d", c[0], got, c[1])
		}
	}
}

// TestCellsAreThoseOfFrames holds Cells against frames as layer 6 makes them.
func TestCellsAreThoseOfFrames(t *testing.T) {
	lengths := []int{16382, 16383, 16384, 16385, 65488, 65489, 65490, 65491, 65535, 65536}
	for n := range 1000 {
		lengths = append(lengths, n)
	}
	for _, n := range lengths {
		if got, want := Cells(n), len(framed(t, 1, make([]byte, n)))/48; got != want {
			t.Errorf("Cells of %d: %d, want %d", n, got, want)
		}
	}
}

func TestTheExample(t *testing.T) {
	p, r := begun(t, 6, "a", "b")
	flushes(t, r)
	tells(t, "the example", p, says("a", "b"))
	p.Fail(nil, -1, 0)
	tells(t, "the example, and a loss of power", p, says("a", "b"))
}

// TestBeginPutsItsFrame: on which side, for which round, in which cells, and in no others.
func TestBeginPutsItsFrame(t *testing.T) {
	for _, n := range []int{0, 1, 40, 41, 88, 89, 127, 128, 200} {
		p := plate.New(21)
		r := tells(t, "a new plate", p, told{})
		tale := rising(n)
		stands(t, "Begin", r, r.Begin(tale), api.OK, true, 10-Cells(n))
		bears(t, "Begin", p, 0, 1, framed(t, 1, tale))
		bears(t, "Begin", p, 1, 0)
		for i, c := range cellsOf(p) {
			if i >= Cells(n) && c != (api.Cell{}) {
				t.Errorf("%d bytes: the cell %d is written", n, i)
			}
		}
		if p.Loose() != 0 {
			t.Errorf("%d bytes: %d Puts aren't sure", n, p.Loose())
		}
		tells(t, "Begin", p, told{tale: tale})
	}
}

// TestBeginAgainAndAgain: from one side to the other, for one round more each time, and what was on the other side stays there.
func TestBeginAgainAndAgain(t *testing.T) {
	p := plate.New(8)
	r, _ := openOf(p)
	for i := range 20 {
		tale, word := rising(i*7), []byte{byte(i)}
		stands(t, "Begin", r, r.Begin(tale), api.OK, true, 4-Cells(len(tale)))
		bears(t, "Begin", p, i%2, uint64(i+1), framed(t, 1, tale))
		if i > 0 {
			was := rising((i - 1) * 7)
			frames := [][]byte{framed(t, 1, was)}
			if Cells(len(was)) < 4 {
				frames = append(frames, framed(t, 2, []byte{byte(i - 1)}))
			}
			bears(t, "the other side", p, 1-i%2, uint64(i), frames...)
		}
		want := told{tale: tale}
		tells(t, "Begin", p, want)
		if r.Left() > 0 {
			stands(t, "Add", r, r.Add(word), api.OK, true, 3-Cells(len(tale)))
			flushes(t, r)
			want.words = [][]byte{word}
		}
		// A Reel that is opened goes on as the old one does.
		if next := tells(t, "Begin, Add", p, want); i%3 == 0 {
			r = next
		}
	}
}

// TestBeginOfWhatFitsJust: a side is what counts, of an odd number of cells too.
func TestBeginOfWhatFitsJust(t *testing.T) {
	for _, cells := range []int{0, 1, 2, 3, 4, 5, 6, 7, 20, 21} {
		room := cells / 2
		most := []int{-1, 40, 88, 135, 183, 231, 279, 327, 375, 423, 471}[room]
		p := plate.New(cells)
		r, _ := openOf(p)
		if most >= 0 {
			stands(t, "fits just", r, r.Begin(rising(most)), api.OK, true, 0)
			tells(t, "fits just", p, told{tale: rising(most)})
			stands(t, "no cell is left", r, r.Add(nil), api.ErrRoom, true, 0)
			stands(t, "fits just, on the other side", r, r.Begin(rising(most)), api.OK, true, 0)
			bears(t, "fits just", p, 1, 2, framed(t, 1, rising(most)))
		}
		for _, n := range []int{most + 1, most + 48, 65536, 65537, 1 << 20} {
			was, ready := cellsOf(p), r.Ready()
			p.Limit(0)
			stands(t, "one cell more", r, r.Begin(make([]byte, n)), api.ErrRoom, ready, 0)
			if p.Off() || !slices.Equal(cellsOf(p), was) {
				t.Errorf("%d cells: a write was tried at %d bytes", cells, n)
			}
		}
	}
}

func TestTheLongestTaleAndWord(t *testing.T) {
	p := plate.New(4096)
	r, _ := openOf(p)
	tale, word := rising(65536), rising(32700)
	stands(t, "too long", r, r.Begin(rising(65537)), api.ErrRoom, false, 0)
	stands(t, "the longest tale", r, r.Begin(tale), api.OK, true, 2048-1366)
	tells(t, "the longest tale", p, told{tale: tale})
	stands(t, "a word that fits just", r, r.Add(word), api.OK, true, 0)
	stands(t, "a word more", r, r.Add(nil), api.ErrRoom, true, 0)
	tells(t, "all is full", p, told{tale, [][]byte{word}})
	stands(t, "a short tale", r, r.Begin([]byte("t")), api.OK, true, 2047)
	stands(t, "a word too long", r, r.Add(rising(65537)), api.ErrRoom, true, 2047)
	stands(t, "the longest word", r, r.Add(tale), api.OK, true, 2047-1366)
	stands(t, "and again", r, r.Add(tale), api.ErrRoom, true, 2047-1366)
	tells(t, "the longest word", p, told{[]byte("t"), [][]byte{tale}})
}

// TestBeginAtTheLastRounds: Top counts, wherever the number stands that it tells.
func TestBeginAtTheLastRounds(t *testing.T) {
	for _, c := range []struct {
		top  uint64
		want api.Errno
	}{
		{0, api.OK}, {1, api.OK}, {255, api.OK}, {api.MaxRound - 2, api.OK}, {api.MaxRound - 1, api.OK},
		{api.MaxRound, api.ErrRoom}, {api.MaxRound + 1, api.ErrRoom}, {1<<48 - 1, api.ErrRoom},
	} {
		for i := range 5 {
			p := plate.New(5)
			var cell api.Cell
			for b := range 8 {
				cell[56+b] = byte(c.top << 16 >> (8 * b))
			}
			p.Put(i, cell)
			p.Flush()
			r := tells(t, "a plate of no tale", p, told{})
			was := cellsOf(p)
			if c.want != api.OK {
				p.Limit(0)
				stands(t, "Begin at the last round", r, r.Begin([]byte("a")), c.want, false, 0)
				if p.Off() || !slices.Equal(cellsOf(p), was) {
					t.Errorf("Top %d: a write was tried", c.top)
				}
				continue
			}
			stands(t, "Begin", r, r.Begin([]byte("a")), api.OK, true, 1)
			bears(t, fmt.Sprintf("Top %d in the cell %d", c.top, i), p, 0, c.top+1, framed(t, 1, []byte("a")))
		}
	}
	p := plate.New(4)
	lay(t, p, 1, api.MaxRound-1, 0, framed(t, 1, []byte("t")))
	r := tells(t, "the last round but one", p, says("t"))
	stands(t, "the last round", r, r.Begin([]byte("a")), api.OK, true, 1)
	stands(t, "none behind it", r, r.Begin([]byte("b")), api.ErrRoom, true, 1)
	stands(t, "a word", r, r.Add([]byte("c")), api.OK, true, 0)
	tells(t, "the last round", p, says("a", "c"))
}

// TestAddPutsItsFrame: in the cells behind what there is, and not sure before Flush.
func TestAddPutsItsFrame(t *testing.T) {
	p, r := begun(t, 40, "tale")
	all, loose := [][]byte{framed(t, 1, []byte("tale"))}, 0
	for i, n := range []int{0, 1, 40, 41, 88, 89, 128, 200, 3} {
		word := rising(n)
		left := r.Left()
		stands(t, "Add", r, r.Add(word), api.OK, true, left-Cells(n))
		all, loose = append(all, framed(t, 2, word)), loose+Cells(n)
		bears(t, "Add", p, 0, 1, all...)
		bears(t, "Add", p, 1, 0)
		if p.Loose() != loose {
			t.Errorf("%d bytes: %d Puts aren't sure, want %d", n, p.Loose(), loose)
		}
		if i%3 == 2 {
			stands(t, "Flush", r, r.Flush(), api.OK, true, left-Cells(n))
			loose = 0
			if p.Loose() != 0 {
				t.Errorf("Flush: %d Puts aren't sure", p.Loose())
			}
		}
	}
}

func TestAddOfWhatFitsJust(t *testing.T) {
	for most, left := range map[int]int{40: 1, 88: 2, 135: 3, 183: 4} {
		p, r := begun(t, 2*(left+2), "tale", "one")
		flushes(t, r)
		p.Limit(0)
		was := cellsOf(p)
		for _, n := range []int{most + 1, most + 48, 65536, 65537, 1 << 20} {
			stands(t, "one cell more", r, r.Add(rising(n)), api.ErrRoom, true, left)
		}
		if p.Off() || p.Loose() != 0 || !slices.Equal(cellsOf(p), was) {
			t.Errorf("%d left: something has changed behind ErrRoom", left)
		}
		p.Limit(-1)
		stands(t, "fits just", r, r.Add(rising(most)), api.OK, true, 0)
		tells(t, "fits just", p, told{[]byte("tale"), [][]byte{[]byte("one"), rising(most)}})
		stands(t, "nothing is left", r, r.Add(nil), api.ErrRoom, true, 0)
		stands(t, "nothing is left", r, r.Flush(), api.OK, true, 0)
	}
}

// TestNothingHasChangedBehindErrRoom: words go on where they were, and a tale on the side it would have.
func TestNothingHasChangedBehindErrRoom(t *testing.T) {
	p, r := begun(t, 10, "tale", "one")
	stands(t, "Begin of too much", r, r.Begin(rising(300)), api.ErrRoom, true, 3)
	stands(t, "Add of too much", r, r.Add(rising(200)), api.ErrRoom, true, 3)
	stands(t, "Add", r, r.Add([]byte("two")), api.OK, true, 2)
	tells(t, "Add", p, says("tale", "one", "two"))
	stands(t, "Begin", r, r.Begin([]byte("new")), api.OK, true, 4)
	bears(t, "Begin", p, 1, 2, framed(t, 1, []byte("new")))
	p.Limit(0)
	stands(t, "no power", r, r.Flush(), api.ErrOff, false, 0)
	p.Fail(nil, -1, 0)
	stands(t, "Begin of too much", r, r.Begin(rising(300)), api.ErrRoom, false, 0)
	stands(t, "Begin", r, r.Begin([]byte("newer")), api.OK, true, 4)
	bears(t, "Begin", p, 0, 3, framed(t, 1, []byte("newer")))
}

// TestNotReady: ahead of Begin, and of too much too, ErrReel is told and nothing is written.
func TestNotReady(t *testing.T) {
	p, _ := begun(t, 10, "tale", "one")
	p.Flush()
	was := cellsOf(p)
	p.Limit(0)
	r := tells(t, "begun", p, says("tale", "one"))
	for _, n := range []int{0, 1, 1000, 65536, 65537} {
		stands(t, "Add ahead of Begin", r, r.Add(rising(n)), api.ErrReel, false, 0)
		stands(t, "Flush ahead of Begin", r, r.Flush(), api.ErrReel, false, 0)
	}
	stands(t, "Add of nil ahead of Begin", r, r.Add(nil), api.ErrReel, false, 0)
	if p.Off() || !slices.Equal(cellsOf(p), was) {
		t.Error("a write was tried")
	}
	p.Limit(-1)
	stands(t, "Begin", r, r.Begin(nil), api.OK, true, 4)
	stands(t, "Add", r, r.Add(nil), api.OK, true, 3)
	stands(t, "Flush", r, r.Flush(), api.OK, true, 3)
	tells(t, "nil", p, says("", ""))
}

// TestPlateErrorsOfAdd: in the middle of a frame, and behind the error till Begin.
func TestPlateErrorsOfAdd(t *testing.T) {
	for writes := range 4 {
		p, r := begun(t, 20, "tale", "one")
		flushes(t, r)
		p.Limit(writes)
		if writes == 3 { // as many as the frame has cells
			stands(t, "Add", r, r.Add(rising(135)), api.OK, true, 5)
			stands(t, "Flush", r, r.Flush(), api.ErrOff, false, 0)
		} else {
			stands(t, "Add", r, r.Add(rising(135)), api.ErrOff, false, 0)
		}
		stands(t, "Add behind the error", r, r.Add(nil), api.ErrReel, false, 0)
		stands(t, "Flush behind the error", r, r.Flush(), api.ErrReel, false, 0)
		stands(t, "Add of too much behind the error", r, r.Add(rising(65537)), api.ErrReel, false, 0)
		if writes == 3 {
			tells(t, "without power", p, told{[]byte("tale"), [][]byte{[]byte("one"), rising(135)}})
		} else {
			tells(t, "without power", p, says("tale", "one"))
		}
		stands(t, "Begin without power", r, r.Begin([]byte("new")), api.ErrOff, false, 0)
		p.Fail(nil, -1, 0)
		stands(t, "power alone is not enough", r, r.Add(nil), api.ErrReel, false, 0)
		tells(t, "a loss of power", p, says("tale", "one"))
		stands(t, "Begin", r, r.Begin([]byte("new")), api.OK, true, 9)
		bears(t, "Begin", p, 1, 2, framed(t, 1, []byte("new")))
		adds(t, r, "two")
		tells(t, "Begin, Add", p, says("new", "two"))
	}
}

func TestPlateErrorsOfFlush(t *testing.T) {
	p, r := begun(t, 20, "tale", "one")
	flushes(t, r)
	p.Limit(0)
	stands(t, "Flush of nothing", r, r.Flush(), api.ErrOff, false, 0)
	stands(t, "and again", r, r.Flush(), api.ErrReel, false, 0)
	p.Fail(nil, -1, 0)
	stands(t, "and again, with power", r, r.Flush(), api.ErrReel, false, 0)
	tells(t, "Flush", p, says("tale", "one"))
}

// TestPlateErrorsOfBegin: the Reel is on its side still, so that the next Begin goes to the same one again.
func TestPlateErrorsOfBegin(t *testing.T) {
	for writes := range 4 { // three cells and a Flush are needed
		for _, ready := range []bool{true, false} {
			p, r := begun(t, 20, "tale", "one")
			flushes(t, r)
			if !ready {
				r = tells(t, "begun", p, says("tale", "one"))
			}
			was := cellsOf(p)[:10]
			p.Limit(writes)
			stands(t, "Begin", r, r.Begin(rising(135)), api.ErrOff, false, 0)
			if !p.Off() || p.Loose() != writes {
				t.Errorf("%d writes: off %v, loose %d", writes, p.Off(), p.Loose())
			}
			stands(t, "Add behind the error", r, r.Add(nil), api.ErrReel, false, 0)
			stands(t, "Flush behind the error", r, r.Flush(), api.ErrReel, false, 0)
			p.Fail([]byte{255}, -1, 0)
			if !slices.Equal(cellsOf(p)[:10], was) {
				t.Errorf("%d writes: the Reel's own side is written", writes)
			}
			if writes < 3 {
				tells(t, "a half tale", p, says("tale", "one"))
			} else {
				tells(t, "a tale that was kept", p, told{tale: rising(135)})
			}
			stands(t, "Begin again", r, r.Begin([]byte("new")), api.OK, true, 9)
			bears(t, "the own side", p, 0, 1, framed(t, 1, []byte("tale")), framed(t, 2, []byte("one")))
			round := uint64(3)
			if writes == 0 {
				round = 2
			}
			bears(t, "the other side", p, 1, round, framed(t, 1, []byte("new")))
			tells(t, "Begin again", p, says("new"))
		}
	}
}

// TestWritesAreNoMoreThanNeeded: so many Puts as there are cells, and a Flush for a tale.
func TestWritesAreNoMoreThanNeeded(t *testing.T) {
	for _, n := range []int{0, 40, 41, 135, 136} {
		p := plate.New(20)
		r, _ := openOf(p)
		p.Limit(Cells(n) + 1)
		stands(t, "Begin", r, r.Begin(rising(n)), api.OK, true, 10-Cells(n))
		p.Limit(Cells(n))
		stands(t, "Add", r, r.Add(rising(n)), api.OK, true, 10-2*Cells(n))
		p.Limit(1)
		stands(t, "Flush", r, r.Flush(), api.OK, true, 10-2*Cells(n))
		stands(t, "no write is left", r, r.Flush(), api.ErrOff, false, 0)
	}
}

// TestWordsGoBehindWhatThereIs: what a loss of power took back is not counted, and the next word stands where it stood.
func TestWordsGoBehindWhatThereIs(t *testing.T) {
	p, r := begun(t, 20, "tale", "one")
	flushes(t, r)
	adds(t, r, "two", string(rising(100)))
	p.Fail(nil, -1, 0)
	stands(t, "words are lost", r, api.OK, api.OK, true, 8)
	stands(t, "Add", r, r.Add([]byte("three")), api.OK, true, 7)
	flushes(t, r)
	p.Fail(nil, -1, 0)
	tells(t, "Add behind a loss", p, says("tale", "one", "three"))
}
