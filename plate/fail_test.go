package plate

import (
	"fmt"
	"math"
	"math/rand"
	"slices"
	"testing"

	"packhorse/api"
)

// joined tells the first n bytes of a, and b behind them.
func joined(a api.Cell, n int, b api.Cell) api.Cell {
	return api.Cell(slices.Concat(a[:n], b[n:]))
}

// whole holds what is so behind each Fail: all is sure, there is power, and nobody counts.
func whole(t *testing.T, what string, p *Plate) {
	t.Helper()
	answers(t, what, p, api.OK, api.OK, 0, false)
	if p.Len() == 0 {
		return
	}
	was, _ := p.Get(0)
	p.Fail([]byte{255, 255}, 0, 64)
	is(t, what+", Fail again", p, 0, was)
	for i := range 5 {
		answers(t, what, p, p.Put(0, full(77)), api.OK, i+1, false)
	}
	is(t, what, p, 0, full(77))
	p.Fail(nil, -1, 0)
	is(t, what, p, 0, was)
}

func TestFailOfTheExample(t *testing.T) {
	p := New(2)
	puts(t, p, 0, full(1))
	puts(t, p, 1, full(2))
	p.Fail([]byte{2}, -1, 0)
	cells(t, "two Puts, the byte 2", p, api.Cell{}, full(2))
	whole(t, "two Puts", p)
}

func TestFailWithNothingLoose(t *testing.T) {
	for _, torn := range []int{-1, 0, 1, math.MinInt, math.MaxInt} {
		for _, keep := range [][]byte{nil, {}, {0}, {255}, {255, 255, 255}} {
			p := New(2)
			puts(t, p, 0, rising(5))
			flushes(t, p)
			p.Fail(keep, torn, 3)
			cells(t, "nothing loose", p, rising(5), api.Cell{})
			whole(t, "nothing loose", p)
			New(0).Fail(keep, torn, 3)
		}
	}
	whole(t, "no cells", New(0))
}

func TestFailKeepsNothingByNil(t *testing.T) {
	for _, keep := range [][]byte{nil, {}, {0}, {0, 0, 0}} {
		p := New(2)
		puts(t, p, 0, full(1))
		flushes(t, p)
		for i := range 20 {
			puts(t, p, i%2, full(byte(i+10)))
		}
		p.Fail(keep, -1, 64)
		cells(t, "nothing kept", p, full(1), api.Cell{})
		whole(t, "nothing kept", p)
	}
}

// TestFailKeepsByBits: each Put has a cell of its own, so that each bit is seen alone.
func TestFailKeepsByBits(t *testing.T) {
	for k := range 20 {
		p := New(20)
		for i := range 20 {
			puts(t, p, i, full(byte(i+1)))
		}
		keep := make([]byte, 3)
		keep[k/8] = 1 << (k % 8)
		p.Fail(keep, -1, 0)
		for i := range 20 {
			want := api.Cell{}
			if i == k {
				want = full(byte(i + 1))
			}
			is(t, fmt.Sprintf("bit %d", k), p, i, want)
		}
	}
}

func TestFailWithFewerAndMoreBits(t *testing.T) {
	for _, c := range []struct {
		keep []byte
		kept []int
	}{
		{[]byte{255}, []int{0, 1, 2, 3, 4, 5, 6, 7}},
		{[]byte{0b10000001}, []int{0, 7}},
		{[]byte{0, 1}, []int{8}},
		{[]byte{128, 2}, []int{7, 9}},
		{[]byte{0, 0, 255, 255, 255, 255, 255, 255, 255}, nil},
		{[]byte{0, 0b11110100, 255, 255}, []int{10}},
		{[]byte{255, 255, 255, 255}, []int{0, 1, 2, 3, 4, 5, 6, 7, 8, 9, 10, 11}},
	} {
		p := New(12)
		for i := range 12 {
			puts(t, p, i, rising(byte(i+1)))
		}
		p.Fail(c.keep, -1, 0)
		for i := range 12 {
			want := api.Cell{}
			if slices.Contains(c.kept, i) {
				want = rising(byte(i + 1))
			}
			is(t, fmt.Sprint("keep ", c.keep), p, i, want)
		}
		whole(t, "bits", p)
	}
}

// TestFailCountsFromTheLastFlush: bits are of the Puts that aren't sure, and of no others.
func TestFailCountsFromTheLastFlush(t *testing.T) {
	p := New(4)
	puts(t, p, 0, full(1))
	puts(t, p, 1, full(2))
	flushes(t, p)
	puts(t, p, 0, full(3))
	p.Put(9, full(4))
	puts(t, p, 2, full(5))
	p.Fail([]byte{2}, -1, 0)
	cells(t, "behind Flush", p, full(1), full(2), full(5), api.Cell{})
	puts(t, p, 3, full(6))
	puts(t, p, 1, full(7))
	p.Fail([]byte{1}, -1, 0)
	cells(t, "behind Fail", p, full(1), full(2), full(5), full(6))
	whole(t, "behind Fail", p)
}

func TestFailOfSeveralAtOneCell(t *testing.T) {
	for keep := range 16 {
		p := New(1)
		puts(t, p, 0, full(1))
		flushes(t, p)
		want := full(1)
		for k := range 4 {
			puts(t, p, 0, full(byte(k+2)))
			if keep>>k&1 == 1 {
				want = full(byte(k + 2))
			}
		}
		p.Fail([]byte{byte(keep)}, -1, 0)
		is(t, fmt.Sprintf("keep %d", keep), p, 0, want)
		whole(t, "several at one cell", p)
	}
}

// TestFailTears: at many bytes of the one that is torn, kept by its bit or not, behind what was sure.
func TestFailTears(t *testing.T) {
	for _, c := range []struct{ at, kept int }{
		{math.MinInt, 0}, {-65, 0}, {-64, 0}, {-1, 0}, {0, 0}, {1, 1}, {2, 2}, {31, 31}, {62, 62}, {63, 63},
		{64, 64}, {65, 64}, {128, 64}, {1 << 32, 64}, {math.MaxInt, 64},
	} {
		for _, keep := range [][]byte{nil, {0}, {255}, {0b101}, {0b010}} {
			p := New(3)
			for i := range 3 {
				puts(t, p, i, rising(byte(i*70)))
			}
			flushes(t, p)
			want := []api.Cell{rising(0), rising(70), rising(140)}
			for i := range 3 {
				puts(t, p, i, rising(byte(i*70+33)))
				if bitByWords(keep, i) == 1 {
					want[i] = rising(byte(i*70 + 33))
				}
			}
			want[1] = joined(rising(103), c.kept, rising(70))
			p.Fail(keep, 1, c.at)
			cells(t, fmt.Sprintf("keep %v, at %d", keep, c.at), p, want...)
			whole(t, "torn", p)
		}
	}
}

// TestFailTornNone: below 0 and behind the last, nothing is torn, whatever at says.
func TestFailTornNone(t *testing.T) {
	for _, torn := range append([]int{3, 4, 8, 64, 1 << 32, math.MaxInt}, none...) {
		for _, at := range []int{-1, 0, 1, 63, 64, 65} {
			p := New(3)
			for i := range 3 {
				puts(t, p, i, full(byte(i+1)))
			}
			p.Fail([]byte{0b11111101}, torn, at)
			cells(t, fmt.Sprintf("torn %d at %d", torn, at), p, full(1), api.Cell{}, full(3))
		}
	}
}

func TestFailTearsEachOne(t *testing.T) {
	for torn := range 20 {
		p := New(20)
		for i := range 20 {
			puts(t, p, i, rising(byte(i+1)))
		}
		p.Fail([]byte{255, 255, 255}, torn, 5)
		for i := range 20 {
			want := rising(byte(i + 1))
			if i == torn {
				want = joined(want, 5, api.Cell{})
			}
			is(t, fmt.Sprintf("torn %d", torn), p, i, want)
		}
	}
}

// TestFailTearsAtOneCell: what is torn is laid over what was kept ahead of it, and what is kept behind it is laid over that.
func TestFailTearsAtOneCell(t *testing.T) {
	for _, c := range []struct {
		keep byte
		want api.Cell
	}{
		{0b000, joined(full(3), 7, full(1))}, {0b010, joined(full(3), 7, full(1))},
		{0b001, joined(full(3), 7, full(2))}, {0b011, joined(full(3), 7, full(2))},
		{0b100, full(4)}, {0b111, full(4)},
	} {
		p := New(1)
		puts(t, p, 0, full(1))
		flushes(t, p)
		for k := range 3 {
			puts(t, p, 0, full(byte(k+2)))
		}
		p.Fail([]byte{c.keep}, 1, 7)
		is(t, fmt.Sprintf("keep %b", c.keep), p, 0, c.want)
		whole(t, "torn at one cell", p)
	}
}

func TestFailOfOneThatIsOff(t *testing.T) {
	p := New(3)
	puts(t, p, 0, full(1))
	flushes(t, p)
	p.Limit(3)
	puts(t, p, 0, full(2))
	puts(t, p, 1, full(3))
	puts(t, p, 2, full(4))
	answers(t, "none left", p, p.Put(2, full(5)), api.ErrOff, 3, true)
	answers(t, "none left", p, p.Flush(), api.ErrOff, 3, true)
	// The Put that was refused is none: its bit, the fourth, keeps nothing.
	p.Fail([]byte{0b1010}, 2, 9)
	cells(t, "off", p, full(1), full(3), joined(full(4), 9, api.Cell{}))
	whole(t, "off", p)
}

func TestFailOfOneWhoseWritesAreCounted(t *testing.T) {
	for _, n := range []int{0, 1, 5} {
		p := New(1)
		puts(t, p, 0, full(1))
		p.Limit(n)
		p.Fail([]byte{1}, -1, 0)
		for i := range 20 {
			answers(t, "nobody counts", p, p.Put(0, full(2)), api.OK, i+1, false)
		}
		flushes(t, p)
		is(t, "counted", p, 0, full(2))
	}
}

// bitByWords goes through all bits one behind the other.
func bitByWords(keep []byte, k int) int {
	for _, x := range keep {
		for range 8 {
			if k == 0 {
				return int(x % 2)
			}
			x /= 2
			k--
		}
	}
	return 0
}

// told is a plate by the chapter's words: byte by byte, each one sought from the last Put back.
type told struct {
	sure   [][]byte
	at     []int
	cells  []api.Cell
	counts bool
	left   int
	off    bool
}

func (p *told) byteOf(i, b int, kept func(k int) int) byte {
	for k := len(p.at) - 1; k >= 0; k-- {
		if p.at[k] == i && b < kept(k) {
			return p.cells[k][b]
		}
	}
	return p.sure[i][b]
}

func (p *told) get(i int) (c api.Cell) {
	for b := range c {
		c[b] = p.byteOf(i, b, func(int) int { return 64 })
	}
	return c
}

func (p *told) write() api.Errno {
	if p.off {
		return api.ErrOff
	}
	if p.counts && p.left == 0 {
		p.off = true
		return api.ErrOff
	}
	p.left--
	return api.OK
}

func (p *told) put(i int, c api.Cell) api.Errno {
	if i < 0 || i >= len(p.sure) {
		return api.ErrPlate
	}
	errno := p.write()
	if errno == api.OK {
		p.at, p.cells = append(p.at, i), append(p.cells, c)
	}
	return errno
}

func (p *told) settle(kept func(k int) int) {
	next := make([][]byte, len(p.sure))
	for i := range next {
		for b := range 64 {
			next[i] = append(next[i], p.byteOf(i, b, kept))
		}
	}
	p.sure, p.at, p.cells = next, nil, nil
}

func (p *told) flush() api.Errno {
	errno := p.write()
	if errno == api.OK {
		p.settle(func(int) int { return 64 })
	}
	return errno
}

func (p *told) fail(keep []byte, torn, at int) {
	p.settle(func(k int) int {
		if k == torn {
			return at
		}
		return 64 * bitByWords(keep, k)
	})
	p.counts, p.off = false, false
}

// TestPlateHoldsToTheWords goes many ways at random, and holds all that can be asked against the words.
func TestPlateHoldsToTheWords(t *testing.T) {
	chance := rand.New(rand.NewSource(1))
	var seen struct{ fails, offs, torn int }
	for range 400 {
		n := chance.Intn(6)
		p, words := New(n), &told{}
		for range n {
			words.sure = append(words.sure, make([]byte, 64))
		}
		for step := range 60 {
			var got, want api.Errno
			switch x := chance.Intn(40); {
			case x < 28:
				var c api.Cell
				chance.Read(c[:])
				i := chance.Intn(n+2) - 1
				got, want = p.Put(i, c), words.put(i, c)
			case x < 32:
				got, want = p.Flush(), words.flush()
			case x < 35:
				left := chance.Intn(14) - 3
				p.Limit(left)
				words.counts, words.left = left >= 0, left
			default:
				keep := make([]byte, chance.Intn(5))
				chance.Read(keep)
				torn, at := chance.Intn(p.Loose()+3)-1, chance.Intn(80)-8
				seen.fails++
				if torn >= 0 && torn < p.Loose() {
					seen.torn++
				}
				p.Fail(keep, torn, at)
				words.fail(keep, torn, at)
			}
			if words.off {
				seen.offs++
			}
			answers(t, fmt.Sprintf("step %d", step), p, got, want, len(words.at), words.off)
			for i := range n {
				is(t, fmt.Sprintf("step %d", step), p, i, words.get(i))
			}
			if t.Failed() {
				return
			}
		}
	}
	if seen.fails < 1000 || seen.offs < 1000 || seen.torn < 500 {
		t.Errorf("too few of a kind: %v", seen)
	}
}
