package reel

import (
	"bytes"
	"fmt"
	"slices"
	"testing"

	"packhorse/api"
	"packhorse/marks"
	"packhorse/plate"
)

// isOn holds on which side the Reel is: its Begin goes to the other one.
func isOn(t *testing.T, what string, p *plate.Plate, r *Reel, side int) {
	t.Helper()
	top := marks.Top(p)
	if errno := r.Begin([]byte("begun")); errno != api.OK {
		t.Fatalf("%s: Begin: %d", what, errno)
	}
	bears(t, what, p, 1-side, top+1, framed(t, 1, []byte("begun")))
	tells(t, what, p, says("begun"))
}

func TestOpenOfNothing(t *testing.T) {
	for _, cells := range []int{-1, 0, 1} {
		p := plate.New(cells)
		r := tells(t, "no side has a cell", p, told{})
		stands(t, "no side has a cell", r, r.Begin(nil), api.ErrRoom, false, 0)
	}
	for _, cells := range []int{2, 3, 10, 4096} {
		p := plate.New(cells)
		isOn(t, "noughts", p, tells(t, "noughts", p, told{}), 1)
	}
}

// TestOpenOfTwoSides: each side with a row that is whole or isn't, of which round ever.
func TestOpenOfTwoSides(t *testing.T) {
	tale, word := framed(t, 1, rising(60)), framed(t, 2, []byte("w"))
	kinds := []struct {
		what  string
		whole bool
		bytes []byte
	}{
		{"nothing", false, nil},
		{"a tale", true, tale},
		{"a tale and a word", true, slices.Concat(tale, word)},
		{"half a tale", false, tale[:48]},
		{"a word", false, word},
		{"noughts", false, make([]byte, 96)},
	}
	for _, first := range kinds {
		for _, second := range kinds {
			for _, rounds := range [][2]uint64{{1, 2}, {2, 1}, {255, 256}, {256, 255}, {1, api.MaxRound - 1}, {api.MaxRound - 1, 1}} {
				p := plate.New(10)
				lay(t, p, 0, rounds[0], 0, first.bytes)
				lay(t, p, 1, rounds[1], 0, second.bytes)
				side, want := 1, told{}
				if first.whole && (!second.whole || rounds[0] > rounds[1]) {
					side = 0
				}
				if on := []bool{first.whole, second.whole}[side]; on {
					want.tale = rising(60)
					if len([][]byte{first.bytes, second.bytes}[side]) > len(tale) {
						want.words = [][]byte{[]byte("w")}
					}
				}
				what := fmt.Sprintf("%s for %d, %s for %d", first.what, rounds[0], second.what, rounds[1])
				isOn(t, what, p, tells(t, what, p, want), side)
			}
		}
	}
}

// changed tells b with another byte at a place.
func changed(b []byte, at int, to byte) []byte {
	c := bytes.Clone(b)
	c[at] = to
	return c
}

// TestOpenOfRows: where a row ends, by what stands behind a frame.
func TestOpenOfRows(t *testing.T) {
	tale, one := framed(t, 1, []byte("tale")), framed(t, 2, []byte("one"))
	long := framed(t, 2, rising(120)) // three cells
	full, fuller := framed(t, 2, rising(40)), framed(t, 2, rising(41))
	blank := make([]byte, 48)
	for _, c := range []struct {
		what string
		row  [][]byte
		want told
	}{
		{"a tale", [][]byte{tale}, says("tale")},
		{"a tale of nothing", [][]byte{framed(t, 1, nil)}, says("")},
		{"a tale of nothing and words of nothing", [][]byte{framed(t, 1, nil), framed(t, 2, nil), framed(t, 2, nil)}, says("", "", "")},
		{"words", [][]byte{tale, one, long, full, fuller}, told{[]byte("tale"), [][]byte{[]byte("one"), rising(120), rising(40), rising(41)}}},
		{"a long tale", [][]byte{framed(t, 1, rising(200)), one}, told{rising(200), [][]byte{[]byte("one")}}},
		{"half a word", [][]byte{tale, one, long[:96]}, says("tale", "one")},
		{"the first cell of a word", [][]byte{tale, one, long[:48]}, says("tale", "one")},
		{"half a word, and one behind it", [][]byte{tale, long[:96], one}, says("tale")},
		{"a word without its first cell", [][]byte{tale, one, long[48:]}, says("tale", "one")},
		{"half a tale", [][]byte{framed(t, 1, rising(120))[:96]}, told{}},
		{"half a tale, and a word behind it", [][]byte{framed(t, 1, rising(120))[:96], one}, told{}},
		{"a tale without its first cell", [][]byte{framed(t, 1, rising(120))[48:]}, told{}},
		{"a word in the first place", [][]byte{one}, told{}},
		{"a word in the first place, a tale behind it", [][]byte{one, tale, one}, told{}},
		{"kind 0 in the first place", [][]byte{framed(t, 0, []byte("tale")), one}, told{}},
		{"kind 3 in the first place", [][]byte{framed(t, 3, []byte("tale")), one}, told{}},
		{"kind 255 in the first place", [][]byte{framed(t, 255, []byte("tale")), one}, told{}},
		{"a tale behind a tale", [][]byte{tale, tale, one}, says("tale")},
		{"a tale behind a word", [][]byte{tale, one, tale, one}, says("tale", "one")},
		{"kind 0 behind a word", [][]byte{tale, one, framed(t, 0, []byte("x")), one}, says("tale", "one")},
		{"kind 3 behind a word", [][]byte{tale, one, framed(t, 3, []byte("x")), one}, says("tale", "one")},
		{"kind 130 behind a tale", [][]byte{tale, framed(t, 130, []byte("x")), one}, says("tale")},
		{"noughts in the first place", [][]byte{blank, tale}, told{}},
		{"noughts between words", [][]byte{tale, one, blank, one}, says("tale", "one")},
		{"a byte behind a tale", [][]byte{changed(tale, 12, 1), one}, told{}},
		{"the last byte behind a tale", [][]byte{changed(tale, 47, 255), one}, told{}},
		{"a byte behind a word", [][]byte{tale, changed(one, 11, 1), one}, says("tale")},
		{"the last byte behind a word", [][]byte{tale, one, changed(one, 47, 1)}, says("tale", "one")},
		{"the last byte behind a long word", [][]byte{tale, one, changed(long, 143, 1), one}, says("tale", "one")},
		{"another byte in a tale", [][]byte{changed(tale, 5, 'x'), one}, told{}},
		{"another byte in a word", [][]byte{tale, changed(one, 5, 'x'), one}, says("tale")},
		{"another byte at a word's end", [][]byte{tale, one, changed(full, 47, full[47]+1)}, says("tale", "one")},
		{"another kind than was sealed", [][]byte{tale, changed(framed(t, 3, []byte("x")), 2, 2)}, says("tale")},
		{"a word that doesn't begin a cell", [][]byte{tale, append(one[:11:11], one[:37]...)}, says("tale")},
	} {
		for side := range 2 {
			for _, round := range []uint64{1, 7, 65536, api.MaxRound - 1} {
				p := plate.New(40)
				lay(t, p, side, round, 0, c.row...)
				r := tells(t, c.what, p, c.want)
				on := 1
				if side == 0 && (len(c.want.tale) > 0 || len(c.want.words) > 0 || c.what == "a tale of nothing") {
					on = 0
				}
				isOn(t, c.what, p, r, on)
			}
		}
	}
}

// TestOpenAheadOfOlderRounds: what an older round left behind the last frame is not told, though it is a word at its place.
func TestOpenAheadOfOlderRounds(t *testing.T) {
	tale, one, two := framed(t, 1, []byte("tale")), framed(t, 2, []byte("one")), framed(t, 2, []byte("two"))
	long := framed(t, 2, rising(120))
	for side := range 2 {
		p := plate.New(20)
		lay(t, p, side, 4, 0, tale, two, two, two, two, two)
		lay(t, p, side, 5, 0, tale, one)
		tells(t, "older words", p, says("tale", "one"))
		lay(t, p, side, 9, 3, two)
		tells(t, "a newer word behind older ones", p, says("tale", "one"))
		lay(t, p, side, 9, 2, two)
		tells(t, "a newer word", p, says("tale", "one"))
		lay(t, p, side, 4, 2, long)
		lay(t, p, side, 5, 2, long[:48])
		tells(t, "a word of two rounds", p, says("tale", "one"))
		lay(t, p, side, 5, 4, long[96:])
		tells(t, "a word whose middle is of another round", p, says("tale", "one"))
		lay(t, p, side, 5, 3, long[48:96])
		tells(t, "a word that is all there", p, told{[]byte("tale"), [][]byte{[]byte("one"), rising(120)}})
	}
}

// TestOpenUpToTheEndOfASide: a row that fills a side, and a frame that would go on beyond it.
func TestOpenUpToTheEndOfASide(t *testing.T) {
	tale, one := framed(t, 1, []byte("tale")), framed(t, 2, []byte("one"))
	long := framed(t, 2, rising(120))
	p := plate.New(8)
	lay(t, p, 0, 5, 0, tale, one, long[:96])
	lay(t, p, 1, 4, 0, long[96:], one)
	tells(t, "a word goes over to the other side", p, says("tale", "one"))
	lay(t, p, 0, 5, 0, tale, long)
	tells(t, "a side is full", p, told{[]byte("tale"), [][]byte{rising(120)}})
}

// TestOpenWritesNothing: it tells the same again, also without power and with words that aren't sure.
func TestOpenWritesNothing(t *testing.T) {
	p, _ := begun(t, 10, "tale", "one", "two")
	p.Limit(1)
	was, loose := cellsOf(p), p.Loose()
	for range 5 {
		tells(t, "again", p, says("tale", "one", "two"))
		if p.Loose() != loose || p.Off() || !slices.Equal(cellsOf(p), was) {
			t.Fatalf("Open: loose %d, off %v", p.Loose(), p.Off())
		}
	}
	if p.Put(9, api.Cell{}) != api.OK || p.Put(9, api.Cell{}) != api.ErrOff {
		t.Error("one write was left")
	}
	tells(t, "without power", p, says("tale", "one", "two"))
}

// TestAskingWritesNothing: Ready, Left and Cells leave the plate as it was.
func TestAskingWritesNothing(t *testing.T) {
	p, r := begun(t, 10, "tale", "one", "two")
	p.Limit(0)
	was := cellsOf(p)
	for range 5 {
		if !r.Ready() || r.Left() != 2 || Cells(40) != 1 {
			t.Errorf("ready %v, left %d", r.Ready(), r.Left())
		}
	}
	if p.Loose() != 2 || p.Off() || !slices.Equal(cellsOf(p), was) {
		t.Errorf("loose %d, off %v", p.Loose(), p.Off())
	}
}

// TestOpenLeavesAReelReady: one that is begun goes on, whoever opens its plate.
func TestOpenLeavesAReelReady(t *testing.T) {
	p, r := begun(t, 10, "tale", "one")
	other := tells(t, "another", p, says("tale", "one"))
	stands(t, "the first", r, r.Add([]byte("two")), api.OK, true, 2)
	stands(t, "the other", other, other.Flush(), api.ErrReel, false, 0)
	tells(t, "another", p, says("tale", "one", "two"))
}

// TestWhatIsHandedInIsLeftAsItWas: spare room too, which counts for nothing, and it may be written over behind the call.
func TestWhatIsHandedInIsLeftAsItWas(t *testing.T) {
	for _, n := range []int{0, 1, 3, 40, 41, 100, 470, 500} {
		room := bytes.Repeat([]byte{0xab}, n+100)
		b := room[:n]
		p := plate.New(20)
		r, _ := openOf(p)
		if fit := n <= 470; (r.Begin(b) == api.OK) != fit || r.Ready() != fit {
			t.Errorf("Begin of %d bytes", n)
		}
		if !bytes.Equal(room, bytes.Repeat([]byte{0xab}, n+100)) {
			t.Errorf("Begin of %d bytes changes what is handed in", n)
		}
		if r.Begin(nil) != api.OK || (r.Add(b) == api.OK) != (n <= 400) {
			t.Errorf("Add of %d bytes", n)
		}
		if !bytes.Equal(room, bytes.Repeat([]byte{0xab}, n+100)) {
			t.Errorf("Add of %d bytes changes what is handed in", n)
		}
	}
	p := plate.New(20)
	r, _ := openOf(p)
	b := rising(60)
	r.Begin(b)
	clear(b)
	tells(t, "a tale written over", p, told{tale: rising(60)})
	b = rising(60)
	r.Add(b)
	clear(b)
	flushes(t, r)
	tells(t, "a word written over", p, told{rising(60), [][]byte{rising(60)}})
}

// overwrite fills a list of an answer, spare room too.
func overwrite(b []byte, v byte) {
	b = b[:cap(b)]
	for i := range b {
		b[i] = v
	}
}

func TestAnswersShareNothing(t *testing.T) {
	want := []string{"", "one", string(rising(40)), string(rising(41)), "", "x"}
	p, r := begun(t, 40, "tale", want...)
	flushes(t, r)
	was := cellsOf(p)
	_, first := openOf(p)
	_, second := openOf(p)
	lists := append([][]byte{first.tale}, first.words...)
	for i, b := range lists {
		overwrite(b, byte(100+i))
	}
	for i, b := range lists {
		if !bytes.Equal(b, bytes.Repeat([]byte{byte(100 + i)}, len(b))) {
			t.Errorf("the list %d shares memory with another of its answer", i)
		}
	}
	words := first.words[:cap(first.words)]
	for i := range words {
		words[i] = []byte("gone")
	}
	if !second.is(says("tale", want...)) {
		t.Errorf("two answers share memory: %v", second)
	}
	if !slices.Equal(cellsOf(p), was) {
		t.Error("an answer shares memory with the plate")
	}
	tells(t, "answers written over", p, says("tale", want...))
	adds(t, r, "more")
	r.Begin([]byte("new"))
	r.Begin([]byte("newer"))
	if !second.is(says("tale", want...)) {
		t.Errorf("what was told is changed by a write: %v", second)
	}
}
