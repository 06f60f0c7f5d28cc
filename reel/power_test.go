package reel

import (
	"bytes"
	"fmt"
	"hash/crc32"
	"math/rand"
	"slices"
	"testing"

	"packhorse/api"
	"packhorse/marks"
	"packhorse/plate"
)

// promise is what may be told behind a loss of power.
type promise struct {
	tale    []byte
	flushed [][]byte
	added   [][]byte // since the last Flush
	begins  [][]byte // the tales of Begins that are going on, or hadn't ended well
}

// allows tells whether what is told is as the promise says.
func (x promise) allows(got told) bool {
	for _, tale := range x.begins {
		if got.is(told{tale: tale}) {
			return true
		}
	}
	n := len(got.words)
	all := slices.Concat(x.flushed, x.added)
	return n >= len(x.flushed) && n <= len(all) && got.is(told{x.tale, all[:n]})
}

func (x promise) String() string {
	return fmt.Sprint(told{x.tale, x.flushed}, " added", told{nil, x.added}, " begins", told{nil, x.begins})
}

// holds opens a plate twice, behind a loss of power, and tells the Reel and what was told.
func (x promise) holds(t *testing.T, what string, p *plate.Plate) (*Reel, told) {
	t.Helper()
	_, got := openOf(p)
	if !x.allows(got) {
		t.Fatalf("%s: Open tells %v, want %v", what, got, x)
	}
	return tells(t, what+", again", p, got), got
}

// someAts is where a Put is torn: ahead of all, within the marks, inside, and where nothing is wanting.
var someAts = []int{-1, 0, 1, 2, 3, 7, 8, 30, 55, 56, 58, 59, 63, 64, 65}

// losses plays each way to keep so many Puts, and to tear one of them or none.
func losses(puts int, play func(what string, keep []byte, torn, at int)) {
	for keep := range 1 << puts {
		for torn := -1; torn < puts; torn++ {
			ats := someAts
			if torn < 0 {
				ats = []int{0}
			}
			for _, at := range ats {
				play(fmt.Sprintf("keep %b, torn %d at %d", keep, torn, at), []byte{byte(keep)}, torn, at)
			}
		}
	}
}

// older tells a plate on which both sides bear words of rounds below, up to their ends.
func older(t *testing.T, tale string, words ...string) (*plate.Plate, *Reel) {
	t.Helper()
	p, r := begun(t, 16, "oldest", "a", "b", "c", "d", "e", "f", "g")
	stands(t, "Begin", r, r.Begin([]byte("older")), api.OK, true, 7)
	adds(t, r, "h", "i", "j", "k", "l", "m", "n")
	stands(t, "Begin", r, r.Begin([]byte(tale)), api.OK, true, 8-Cells(len(tale)))
	adds(t, r, words...)
	flushes(t, r)
	return p, r
}

// TestEveryLossWithinWords: three words, the second one of two cells, behind a word that is sure.
func TestEveryLossWithinWords(t *testing.T) {
	words := []string{"one", string(rising(60)), "three"}
	x := promise{tale: []byte("tale"), flushed: says("", "sure").words, added: says("", words...).words}
	seen := map[int]int{}
	losses(4, func(what string, keep []byte, torn, at int) {
		p, r := older(t, "tale", "sure")
		adds(t, r, words...)
		p.Fail(keep, torn, at)
		_, got := x.holds(t, what, p)
		seen[len(got.words)]++
		// Kept whole up to there, they are told up to there.
		want := 1
		for i, cells := range []byte{1, 7, 15} {
			if keep[0]&cells == cells && torn < 0 {
				want = i + 2
			}
		}
		if torn < 0 && len(got.words) != want {
			t.Errorf("%s: %v, want %d words", what, got, want)
		}
	})
	for n := 1; n <= 4; n++ {
		if seen[n] == 0 {
			t.Errorf("%d words are never told", n)
		}
	}
}

// TestEveryLossWithinATale: of two cells and of three, with words that aren't sure on the Reel's own side.
func TestEveryLossWithinATale(t *testing.T) {
	for _, n := range []int{60, 120} {
		x := promise{tale: []byte("tale"), flushed: says("", "sure").words, added: says("", "loose").words, begins: [][]byte{rising(n)}}
		seen := map[bool]int{}
		losses(1+Cells(n), func(what string, keep []byte, torn, at int) {
			p, r := older(t, "tale", "sure")
			adds(t, r, "loose")
			p.Limit(Cells(n))
			stands(t, what, r, r.Begin(rising(n)), api.ErrOff, false, 0)
			p.Fail(keep, torn, at)
			next, got := x.holds(t, what, p)
			begun := bytes.Equal(got.tale, rising(n))
			seen[begun]++
			if all := byte(1<<(1+Cells(n)) - 2); torn < 0 && begun != (keep[0]&all == all) {
				t.Errorf("%s: %v", what, got)
			}
			stands(t, what, next, next.Begin([]byte("new")), api.OK, true, 7)
			tells(t, what, p, says("new"))
			p.Fail(nil, -1, 0)
			tells(t, what, p, says("new"))
		})
		if seen[true] == 0 || seen[false] == 0 {
			t.Errorf("%d bytes: %v", n, seen)
		}
	}
}

// TestALossWithinTheFirstTale: nothing was begun, and nothing is told, or that tale.
func TestALossWithinTheFirstTale(t *testing.T) {
	losses(2, func(what string, keep []byte, torn, at int) {
		p := plate.New(8)
		r, _ := openOf(p)
		p.Limit(2)
		stands(t, what, r, r.Begin(rising(60)), api.ErrOff, false, 0)
		p.Fail(keep, torn, at)
		x := promise{begins: [][]byte{rising(60)}}
		x.holds(t, what, p)
	})
}

// TestEveryWriteCutOff: a row of calls that has need of 15 writes, the power gone behind each number of them.
func TestEveryWriteCutOff(t *testing.T) {
	for keep := range 32 {
		for writes := range 22 {
			p, r := older(t, "tale", "sure")
			x := promise{tale: []byte("tale"), flushed: says("", "sure").words}
			p.Limit(writes)
			for i, n := range []int{3, 60, 5} {
				add(r, &x, rising(n))
				if i == 1 {
					flush(r, &x)
				}
			}
			begin(r, &x, rising(90))
			add(r, &x, rising(7))
			add(r, &x, rising(50))
			flush(r, &x)
			begin(r, &x, rising(4))
			what := fmt.Sprintf("%d writes, keep %b", writes, keep)
			if off := writes < 15; p.Off() != off || r.Ready() == off {
				t.Errorf("%s: off %v, ready %v", what, p.Off(), r.Ready())
			}
			if !p.Off() {
				p.Limit(0)
				flush(r, &x)
			}
			x.holds(t, what+", without power", p)
			p.Fail([]byte{byte(keep)}, keep%5, keep*3)
			x.holds(t, what, p)
		}
	}
}

// add tries to add a word, and tells the promise of it.
func add(r *Reel, x *promise, word []byte) {
	ready := r.Ready()
	if errno := r.Add(word); ready && errno != api.ErrRoom {
		x.added = append(x.added, word)
	}
}

func flush(r *Reel, x *promise) {
	if r.Flush() == api.OK {
		x.flushed, x.added = append(x.flushed, x.added...), nil
	}
}

func begin(r *Reel, x *promise, tale []byte) {
	off := r.plate.Off()
	switch errno := r.Begin(tale); {
	case errno == api.OK:
		*x = promise{tale: tale}
	case errno == api.ErrOff && !off:
		x.begins = append(x.begins, tale)
	}
}

// TestLossesByChance: one loss of power upon another, with Open behind each, so that a plate has torn cells from earlier ones.
func TestLossesByChance(t *testing.T) {
	chance := rand.New(rand.NewSource(3))
	bytesBy := func(most int) []byte {
		b := make([]byte, chance.Intn(most))
		chance.Read(b)
		return b
	}
	for round := range 400 {
		p := plate.New(4 + chance.Intn(40))
		r, _ := openOf(p)
		x := promise{}
		begin(r, &x, bytesBy(40))
		for step := range 60 {
			if chance.Intn(3) == 0 {
				p.Limit(chance.Intn(12))
			}
			for range chance.Intn(5) {
				switch chance.Intn(6) {
				case 0:
					begin(r, &x, bytesBy(48*p.Len()/2))
				case 1, 2:
					flush(r, &x)
				default:
					add(r, &x, bytesBy(150))
				}
			}
			what := fmt.Sprintf("plate %d, step %d", round, step)
			x.holds(t, what+", as it stands", p)
			keep := bytesBy(9)
			if chance.Intn(2) == 0 {
				keep = []byte{255, 255, 255, 255}
			}
			p.Fail(keep, chance.Intn(max(1, p.Loose()))-chance.Intn(2), chance.Intn(70)-3)
			next, got := x.holds(t, what, p)
			// An old Reel that isn't ready may begin again as well as the one that is opened.
			if r.Ready() || chance.Intn(2) == 0 {
				r, x = next, promise{tale: got.tale, flushed: got.words}
			}
			if !r.Ready() && chance.Intn(3) > 0 {
				begin(r, &x, bytesBy(60))
			}
		}
	}
}

// frameByWords seeks a frame by layer 6's chapter, as many cells as it may have; its Body, and how many it has.
func frameByWords(inners [][]byte, kind byte) ([]byte, int) {
	for n := 1; n <= len(inners); n++ {
		b := slices.Concat(inners[:n]...)
		for size := 48*(n-1) + 1; size <= 48*n; size++ {
			for length := 1; length <= 3; length++ {
				long := size - 7 - length
				if long < 0 || !bytes.Equal(b[size:], make([]byte, 48*n-size)) {
					continue
				}
				head := []byte{167, 1, kind, byte(long)}
				switch {
				case long >= 1<<14:
					head = []byte{167, 1, kind, byte(long) | 128, byte(long>>7) | 128, byte(long >> 14)}
				case long >= 1<<7:
					head = []byte{167, 1, kind, byte(long) | 128, byte(long >> 7)}
				}
				if len(head) != 3+length || !bytes.HasPrefix(b, head) {
					continue
				}
				sum := crc32.Checksum(b[:size-4], crc32.MakeTable(crc32.Castagnoli))
				if bytes.Equal(b[size-4:size], []byte{byte(sum), byte(sum >> 8), byte(sum >> 16), byte(sum >> 24)}) {
					return b[3+length : size-4], n
				}
			}
		}
	}
	return nil, 0
}

// openByWords tells by the chapter's words on which side a Reel is, and what is told.
func openByWords(p *plate.Plate) (int, told) {
	on, last, got := 1, uint64(0), told{}
	for side := range 2 {
		round, inners := marks.Read(p, side)
		tale, n := frameByWords(inners, 1)
		if n == 0 || round <= last {
			continue
		}
		on, last, got = side, round, told{tale: tale}
		for inners = inners[n:]; ; inners = inners[n:] {
			var word []byte
			if word, n = frameByWords(inners, 2); n == 0 {
				break
			}
			got.words = append(got.words, word)
		}
	}
	return on, got
}

// TestOpenHoldsToTheWords goes over plates of frames by chance, some of them spoiled.
func TestOpenHoldsToTheWords(t *testing.T) {
	chance := rand.New(rand.NewSource(4))
	seen := map[int]int{}
	for range 3000 {
		p := plate.New(chance.Intn(30))
		room := p.Len() / 2
		first := uint64(chance.Intn(300) + 1)
		for side := range 2 {
			var row []byte
			for i := range chance.Intn(6) {
				kind := byte(min(i+1, 2))
				if chance.Intn(12) == 0 {
					kind = byte(chance.Intn(4))
				}
				body := make([]byte, chance.Intn(50)*(1+chance.Intn(4)))
				chance.Read(body)
				row = append(row, framed(t, kind, body)...)
			}
			if len(row) > 0 && chance.Intn(3) == 0 {
				row[chance.Intn(len(row))] = byte(chance.Intn(2))
			}
			for at, chunk := range slices.Collect(slices.Chunk(row, 48)) {
				round := first + uint64(side)*uint64(chance.Intn(2))
				if chance.Intn(30) > 0 {
					round = first + uint64(1-2*side)
				}
				if at < room && round > 0 {
					lay(t, p, side, round, at, chunk)
				}
			}
		}
		side, want := openByWords(p)
		r := tells(t, "by chance", p, want)
		seen[len(want.words)]++
		if room > 0 {
			isOn(t, "by chance", p, r, side)
		}
		if t.Failed() {
			return
		}
	}
	for n := range 5 {
		if seen[n] < 20 {
			t.Errorf("too few answers of %d words: %d", n, seen[n])
		}
	}
}
