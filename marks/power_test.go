package marks

import (
	"bytes"
	"encoding/binary"
	"fmt"
	"math/rand"
	"slices"
	"testing"

	"packhorse/api"
	"packhorse/plate"
)

// told is what Read tells.
type told struct {
	round  uint64
	inners [][]byte
}

func toldOf(p *plate.Plate, side int) told {
	r, l := Read(p, side)
	return told{r, l}
}

// begins tells whether l is a beginning of all.
func begins(l, all [][]byte) bool {
	return len(l) <= len(all) && slices.EqualFunc(l, all[:len(l)], bytes.Equal)
}

func (a told) is(b told) bool {
	return a.round == b.round && len(a.inners) == len(b.inners) && begins(a.inners, b.inners)
}

// loss is a loss of power while cells are put on a side for a round above all.
type loss struct {
	side     int
	round    uint64
	inners   [][]byte
	flushed  int // so many Puts are done ahead of a Flush; below 0: there is none
	keep     []byte
	torn, at int // torn: of the Puts that aren't sure
}

// play puts place by place, and takes the power away. It tells how many of the Puts were sure.
func (x loss) play(t *testing.T, p *plate.Plate) int {
	t.Helper()
	for at, inner := range x.inners {
		if at == x.flushed {
			p.Flush()
		}
		if errno := Put(p, x.side, x.round, at, inner); errno != api.OK {
			t.Fatal(errno)
		}
	}
	if x.flushed == len(x.inners) {
		p.Flush()
	}
	p.Fail(x.keep, x.torn, x.at)
	return max(0, x.flushed)
}

// holds plays, and holds what is told behind it against the promise.
func (x loss) holds(t *testing.T, p *plate.Plate) {
	t.Helper()
	top, room, unlike := Top(p), Room(p), false
	for at := range x.inners {
		c, _ := p.Get(x.side*room + at)
		unlike = unlike || !bytes.Equal(c[:8], c[56:])
	}
	was, other := toldOf(p, x.side), toldOf(p, 1-x.side)
	sure := x.play(t, p)
	if got := toldOf(p, 1-x.side); !got.is(other) {
		t.Errorf("%+v: the other side tells %v, want %v", x, got, other)
	}
	if got := Top(p); got > max(top, x.round) {
		t.Errorf("%+v: Top %d, and was %d", x, got, top)
	}
	got := toldOf(p, x.side)
	all := make([][]byte, len(x.inners))
	for i, inner := range x.inners {
		all[i] = padded(inner)
	}
	switch {
	case got.round == x.round && begins(got.inners, all) && len(got.inners) >= max(sure, 1):
	case sure > 0:
		t.Errorf("%+v: %v", x, got)
	case got.round == 0 && len(got.inners) == 0:
	case got.round == was.round && begins(got.inners, was.inners):
	case unlike && got.round <= top:
	default:
		t.Errorf("%+v: %v, was %v", x, got, was)
	}
}

// TestEveryLossOfTwoCells: each way to keep or tear two Puts, over cells of the rounds below, over noughts, and over cells of other places.
func TestEveryLossOfTwoCells(t *testing.T) {
	before := [][2]api.Cell{
		{},
		{bearing(mark(6, 0), "old"), bearing(mark(6, 1), "older")},
		{bearing(mark(255, 0), "old"), bearing(mark(255, 1), "older")},
		{bearing(mark(6, 0), "old"), bearing(mark(5, 1), "older")},
		{bearing(mark(6, 1), "old"), bearing(mark(6, 0), "older")},
		{bearing(mark(6, 0), "old"), {}},
		{raw(mark(6, 0), []byte("old"), mark(5, 0)), bearing(mark(6, 1), "older")},
		{bearing(mark(6, 0), "old"), raw(mark(9, 1), []byte("older"), mark(6, 1))},
	}
	for _, cells := range before {
		for side := range 2 {
			for flushed := -1; flushed <= 2; flushed++ {
				for keep := range 4 {
					for torn := -1; torn <= 2; torn++ {
						for at := range 65 {
							p := plateOf(t, make([]api.Cell, 5)...)
							for i := range 2 {
								p.Put(side*2+i, cells[i])
								p.Put((1-side)*2+i, bearing(mark(4, i), "there"))
							}
							p.Flush()
							round := Top(p) + 1
							loss{side, round, [][]byte{rising(48), []byte("new")}, flushed, []byte{byte(keep)}, torn, at}.holds(t, p)
						}
						if t.Failed() {
							return
						}
					}
				}
			}
		}
	}
}

// TestWhatIsKeptIsTold: which answers come, not only which may.
func TestWhatIsKeptIsTold(t *testing.T) {
	for _, c := range []struct {
		what     string
		keep     byte
		torn, at int
		round    uint64
		inners   []string
	}{
		{"all", 7, -1, 0, 6, []string{"x", "y", "z"}},
		{"none", 0, -1, 0, 5, []string{"a", "b", "c"}},
		{"the first", 1, -1, 0, 6, []string{"x"}},
		{"the second", 2, -1, 0, 5, []string{"a"}},
		{"the third", 4, -1, 0, 5, []string{"a", "b"}},
		{"the first and the third", 5, -1, 0, 6, []string{"x"}},
		{"the second and the third", 6, -1, 0, 5, []string{"a"}},
		{"the first is torn ahead of its mark", 7, 0, 0, 5, []string{"a"}},
		{"the first is torn where its mark is still like the old one", 6, 0, 2, 5, []string{"a"}},
		{"the first is torn within its mark", 7, 0, 3, 0, nil},
		{"the first is torn inside", 7, 0, 30, 0, nil},
		{"the first is torn ahead of its last mark", 7, 0, 56, 0, nil},
		{"the first is torn within its last mark", 7, 0, 58, 0, nil},
		{"the first is torn where nothing is wanting", 7, 0, 59, 6, []string{"x", "y", "z"}},
		{"the first is torn behind its mark", 7, 0, 64, 6, []string{"x", "y", "z"}},
		{"the second is torn ahead of its mark", 5, 1, 0, 6, []string{"x"}},
		{"the second is torn within its mark", 7, 1, 3, 6, []string{"x"}},
		{"the second is torn inside", 7, 1, 30, 6, []string{"x"}},
		{"the second is torn within its last mark", 7, 1, 58, 6, []string{"x"}},
		{"the second is torn behind its mark", 1, 1, 64, 6, []string{"x", "y"}},
		{"the second is torn, and the first is lost", 0, 1, 30, 5, []string{"a"}},
		{"the third is torn inside", 3, 2, 30, 6, []string{"x", "y"}},
		{"the third is torn, and the others are lost", 0, 2, 30, 5, []string{"a", "b"}},
	} {
		for side := range 2 {
			p := plate.New(7)
			for at, inner := range []string{"a", "b", "c"} {
				puts(t, p, side, 5, at, inner)
				puts(t, p, 1-side, 3, at, "there")
			}
			p.Flush()
			for at, inner := range []string{"x", "y", "z"} {
				puts(t, p, side, 6, at, inner)
			}
			p.Fail([]byte{c.keep}, c.torn, c.at)
			reads(t, c.what, p, side, c.round, c.inners...)
			reads(t, c.what, p, 1-side, 3, "there", "there", "there")
		}
	}
}

// TestWhatIsSureStays: Flushed ones are told, whatever becomes of those behind them.
func TestWhatIsSureStays(t *testing.T) {
	for flushed := 1; flushed <= 3; flushed++ {
		for keep := range 16 {
			for _, at := range []int{0, 3, 30, 58, 64} {
				p := plate.New(8)
				for at := range 4 {
					puts(t, p, 1, 5, at, "old")
				}
				p.Flush()
				for at := range flushed {
					puts(t, p, 1, 6, at, "sure")
				}
				p.Flush()
				for at := flushed; at < 4; at++ {
					puts(t, p, 1, 6, at, "new")
				}
				p.Fail([]byte{byte(keep)}, 0, at)
				round, l := Read(p, 1)
				if round != 6 || len(l) < flushed {
					t.Errorf("%d are sure, keep %d: %d, %q", flushed, keep, round, l)
				}
			}
		}
	}
}

// chanceNumber tells one of few numbers, so that cells bear marks now and again, of places and rounds that are near each other.
func chanceNumber(chance *rand.Rand, at int) uint64 {
	round := []uint64{0, 1, 2, 3, 255, 256, api.MaxRound - 1, api.MaxRound, api.MaxRound + 1}[chance.Intn(9)]
	switch chance.Intn(8) {
	case 0:
		return chance.Uint64()
	case 1:
		return 0
	case 2:
		return mark(round, chance.Intn(5))
	}
	return mark(round, at)
}

// readByWords seeks the longest beginning of the cells that goes with the chapter's words, of each round that there is.
func readByWords(cells []api.Cell, side int) told {
	room := (len(cells) - len(cells)%2) / 2
	if side != 0 && side != 1 {
		return told{}
	}
	on := cells[side*room : (side+1)*room]
	for n := len(on); n > 0; n-- {
		round := binary.LittleEndian.Uint64(on[0][:]) >> 16
		if round == 0 || round > 1<<40 {
			return told{}
		}
		ok := true
		var inners [][]byte
		for at, c := range on[:n] {
			inner := c[8:56]
			ok = ok && c == raw(round<<16+uint64(at)+1, inner, round<<16+uint64(at)+1)
			inners = append(inners, slices.Clone(inner))
		}
		if ok {
			return told{round, inners}
		}
	}
	return told{}
}

func topByWords(cells []api.Cell) uint64 {
	var all []uint64
	for _, c := range cells {
		all = append(all, binary.LittleEndian.Uint64(c[:8])>>16, binary.LittleEndian.Uint64(c[56:])>>16)
	}
	return slices.Max(append(all, 0))
}

// TestAnswersHoldToTheWords goes over plates of cells by chance.
func TestAnswersHoldToTheWords(t *testing.T) {
	chance := rand.New(rand.NewSource(1))
	seen := map[int]int{}
	for range 30000 {
		cells := make([]api.Cell, chance.Intn(10))
		near := chance.Intn(3)
		for i := range cells {
			at := i % max(1, len(cells)/2)
			first := chanceNumber(chance, at)
			if near > 0 {
				first = mark(uint64(chance.Intn(6)/5)+300, at)
			}
			last := first
			if chance.Intn(8) == 0 {
				last = chanceNumber(chance, at)
			}
			inner := make([]byte, 48)
			chance.Read(inner)
			cells[i] = raw(first, inner, last)
		}
		p := plateOf(t, cells...)
		for side := -1; side <= 2; side++ {
			want := readByWords(cells, side)
			if got := toldOf(p, side); !got.is(want) {
				t.Fatalf("%v, side %d: %v, want %v", cells, side, got, want)
			}
			seen[len(want.inners)]++
		}
		tops(t, fmt.Sprint(cells), p, topByWords(cells))
	}
	for n := range 5 {
		if seen[n] < 100 {
			t.Errorf("too few answers of %d cells: %d", n, seen[n])
		}
	}
}

// TestLossesByChance: one loss of power upon another, so that a plate has torn cells from earlier ones.
func TestLossesByChance(t *testing.T) {
	chance := rand.New(rand.NewSource(2))
	for range 1500 {
		p := plate.New(2 + chance.Intn(9))
		if chance.Intn(2) == 0 {
			for i := range p.Len() {
				p.Put(i, raw(chanceNumber(chance, i)>>8, []byte("first"), chanceNumber(chance, i)>>8))
			}
			p.Flush()
		}
		for range 12 {
			round := Top(p) + 1 + uint64(chance.Intn(2)*chance.Intn(1000))
			if round > api.MaxRound {
				break
			}
			x := loss{side: chance.Intn(2), round: round, keep: make([]byte, 2), at: chance.Intn(70) - 3}
			chance.Read(x.keep)
			if chance.Intn(2) == 0 {
				x.keep = []byte{255, 255}
			}
			for range chance.Intn(Room(p) + 1) {
				inner := make([]byte, chance.Intn(49))
				chance.Read(inner)
				x.inners = append(x.inners, inner)
			}
			x.flushed = chance.Intn(len(x.inners)+2) - 1
			x.torn = chance.Intn(len(x.inners)+2) - 1
			x.holds(t, p)
			if t.Failed() {
				return
			}
		}
	}
}
