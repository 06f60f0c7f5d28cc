package check

import (
	"bytes"
	"fmt"
	"hash/crc32"
	"math"
	"math/rand"
	"slices"
	"strings"
	"testing"
)

var below = []int{-1, -2, -3, -8, -255, -256, -1 << 31, -1<<31 - 1, -1 << 32, -1<<32 + 1, -1 << 62, math.MinInt + 1, math.MinInt}

var numbers = []uint32{0, 1, 2, 3, 127, 128, 255, 256, 1 << 16, 1<<31 - 1, 1 << 31, 1<<31 + 1, 2197175160, 3808858755, ^uint32(2197175160), 0x55555555, 0xAAAAAAAA, 4294967294, 4294967295}

// halvedByWords is one halving, told by sums and divisions.
func halvedByWords(n uint64) uint64 {
	if n%2 == 1 {
		return n/2 ^ 2197175160
	}
	return n / 2
}

// ofByWords goes by the chapter's own words.
func ofByWords(b []byte) uint32 {
	n := uint64(4294967295)
	for _, x := range b {
		n = n/256*256 + (n%256 ^ uint64(x))
		for range 8 {
			n = halvedByWords(n)
		}
	}
	return uint32(4294967295 - n)
}

func joinByWords(a, b uint32, n int) uint32 {
	on := uint64(a)
	for i := 0; i < n; i++ {
		for range 8 {
			on = halvedByWords(on)
		}
	}
	return b ^ uint32(on)
}

// product multiplies two numbers as halvings do: the highest bit is one, and each halving is a factor of its own.
func product(a, b uint32) uint32 {
	var all uint64
	for on, bit := uint64(a), 31; bit >= 0; bit-- {
		if b>>bit&1 == 1 {
			all ^= on
		}
		on = halvedByWords(on)
	}
	return uint32(all)
}

// joinByProducts tells Join where halving by halving would take too long; TestProducts holds it against the chapter's words.
func joinByProducts(a, b uint32, n int) uint32 {
	const eightHalvings = 1 << (31 - 8)
	for power := uint32(eightHalvings); n > 0; n >>= 1 {
		if n&1 == 1 {
			a = product(a, power)
		}
		power = product(power, power)
	}
	return a ^ b
}

func someBytes(chance *rand.Rand, n int) []byte {
	b := make([]byte, n)
	chance.Read(b)
	return b
}

func is(t *testing.T, what string, got, want uint32) {
	t.Helper()
	if got != want {
		t.Errorf("%s: %08X, want %08X", what, got, want)
	}
}

func TestOf(t *testing.T) {
	rising := make([]byte, 32)
	for i := range rising {
		rising[i] = byte(i)
	}
	falling := slices.Clone(rising)
	slices.Reverse(falling)
	for _, c := range []struct {
		b    string
		want uint32
	}{
		{"123456789", 3808858755}, {"a", 0xC1D04330}, {"", 0}, {"\x00", 0x527D5351}, {"\xff", 0xFF000000},
		{strings.Repeat("\x00", 32), 0x8A9136AA}, {strings.Repeat("\xff", 32), 0x62A8AB43}, {string(rising), 0x46DD794E}, {string(falling), 0x113FDB5C},
		{"The quick brown fox jumps over the lazy dog", 0x22620404},
	} {
		is(t, fmt.Sprintf("Of %q", c.b), Of([]byte(c.b)), c.want)
	}
}

func TestOfNothing(t *testing.T) {
	is(t, "Of no list", Of(), 0)
	for _, l := range [][][]byte{nil, {}, {nil}, {{}}, {nil, nil}, {nil, {}, nil}, make([][]byte, 1000), {make([]byte, 0, 9)}} {
		is(t, fmt.Sprintf("Of %d lists without bytes", len(l)), Of(l...), 0)
	}
}

func TestOfOneByte(t *testing.T) {
	table := crc32.MakeTable(crc32.Castagnoli)
	seen := map[uint32]int{}
	for i := range 256 {
		b := []byte{byte(i)}
		got := Of(b)
		is(t, fmt.Sprintf("Of byte %d", i), got, ofByWords(b))
		is(t, fmt.Sprintf("Of byte %d", i), got, crc32.Checksum(b, table))
		if other, there := seen[got]; there {
			t.Errorf("bytes %d and %d are alike", other, i)
		}
		seen[got] = i
	}
}

func TestOfHoldsToTheWords(t *testing.T) {
	chance := rand.New(rand.NewSource(1))
	table := crc32.MakeTable(crc32.Castagnoli)
	for n := range 600 {
		b := someBytes(chance, n)
		is(t, fmt.Sprintf("Of %d bytes", n), Of(b), ofByWords(b))
	}
	for _, n := range []int{4096, 65535, 65536, 65537, 1<<20 + 3} {
		b := someBytes(chance, n)
		is(t, fmt.Sprintf("Of %d bytes", n), Of(b), ofByWords(b))
		is(t, fmt.Sprintf("Of %d bytes", n), Of(b), crc32.Checksum(b, table))
	}
}

func TestOfInPieces(t *testing.T) {
	text := []byte("123456789")
	for i := range len(text) + 1 {
		is(t, fmt.Sprintf("cut at %d", i), Of(text[:i], text[i:]), 3808858755)
		is(t, fmt.Sprintf("cut at %d, with empty ones", i), Of(nil, text[:i], []byte{}, nil, text[i:], nil), 3808858755)
		for j := i; j <= len(text); j++ {
			is(t, fmt.Sprintf("cut at %d and %d", i, j), Of(text[:i], text[i:j], text[j:]), 3808858755)
		}
	}
	chance := rand.New(rand.NewSource(2))
	for range 500 {
		whole := someBytes(chance, chance.Intn(300))
		var pieces [][]byte
		for left := whole; len(left) > 0; {
			n := chance.Intn(min(len(left), 20) + 1)
			pieces = append(pieces, left[:n])
			left = left[n:]
		}
		is(t, fmt.Sprintf("%d bytes in %d pieces", len(whole), len(pieces)), Of(pieces...), ofByWords(whole))
	}
	var ones [][]byte
	for i := range 5000 {
		ones = append(ones, []byte{byte(i)})
	}
	is(t, "5000 pieces of a byte", Of(ones...), ofByWords(slices.Concat(ones...)))
}

// TestOfTellsTheOrder: the same pieces the other way about are other bytes.
func TestOfTellsTheOrder(t *testing.T) {
	a, b := []byte("1234"), []byte("56789")
	is(t, "ahead", Of(a, b), 3808858755)
	is(t, "behind", Of(b, a), ofByWords([]byte("567891234")))
	if Of(a, b) == Of(b, a) {
		t.Error("the order isn't told")
	}
}

// TestOfTellsOneBit: bytes that are other in one bit alone have another number.
func TestOfTellsOneBit(t *testing.T) {
	b := someBytes(rand.New(rand.NewSource(3)), 64)
	was := Of(b)
	for i := range b {
		for bit := range 8 {
			b[i] ^= 1 << bit
			if Of(b) == was {
				t.Errorf("byte %d, bit %d: not told", i, bit)
			}
			b[i] ^= 1 << bit
		}
	}
}

func TestJoinIsOfBoth(t *testing.T) {
	is(t, "Join", Join(Of([]byte("1234")), Of([]byte("56789")), 5), 3808858755)
	chance := rand.New(rand.NewSource(4))
	lengths := []int{0, 1, 2, 3, 4, 7, 8, 9, 31, 32, 33, 63, 64, 65, 255, 256, 257, 1000, 65536}
	for _, first := range lengths {
		for _, n := range lengths {
			a, b := someBytes(chance, first), someBytes(chance, n)
			is(t, fmt.Sprintf("Join of %d and %d bytes", first, n), Join(Of(a), Of(b), n), Of(a, b))
		}
	}
	a, b := someBytes(chance, 1<<20+1), someBytes(chance, 1<<20-1)
	is(t, "Join of long ones", Join(Of(a), Of(b), len(b)), Of(a, b))
	for n := range 400 {
		a, b := someBytes(chance, chance.Intn(50)), someBytes(chance, n)
		is(t, fmt.Sprintf("Join of %d and %d bytes", len(a), n), Join(Of(a), Of(b), n), ofByWords(slices.Concat(a, b)))
	}
}

func TestJoinOfThree(t *testing.T) {
	chance := rand.New(rand.NewSource(5))
	for range 300 {
		a, b, c := someBytes(chance, chance.Intn(40)), someBytes(chance, chance.Intn(40)), someBytes(chance, chance.Intn(40))
		want := Of(a, b, c)
		is(t, "the first two first", Join(Join(Of(a), Of(b), len(b)), Of(c), len(c)), want)
		is(t, "the last two first", Join(Of(a), Join(Of(b), Of(c), len(c)), len(b)+len(c)), want)
	}
}

func TestJoinWithNothing(t *testing.T) {
	for _, n := range append([]int{0}, below...) {
		is(t, fmt.Sprintf("123456789 and nothing, %d", n), Join(3808858755, Of(), n), 3808858755)
	}
	for _, n := range []int{0, 1, 9, 1000, 1 << 40, math.MaxInt} {
		is(t, fmt.Sprintf("nothing and any, %d", n), Join(Of(), 3808858755, n), 3808858755)
		is(t, fmt.Sprintf("nothing and 0, %d", n), Join(Of(), 0, n), 0)
	}
}

func TestJoinOfAnyNumbers(t *testing.T) {
	chance := rand.New(rand.NewSource(6))
	all := slices.Clone(numbers)
	for range 40 {
		all = append(all, chance.Uint32())
	}
	for i := range 32 {
		all = append(all, 1<<i)
	}
	for _, a := range all {
		for _, b := range all {
			for _, n := range []int{0, 1, 2, 5, 8} {
				is(t, fmt.Sprintf("Join(%d, %d, %d)", a, b, n), Join(a, b, n), joinByWords(a, b, n))
			}
		}
		b, n := chance.Uint32(), chance.Intn(5000)
		is(t, fmt.Sprintf("Join(%d, %d, %d)", a, b, n), Join(a, b, n), joinByWords(a, b, n))
	}
	is(t, "by hand, one byte", Join(128, 0, 1), 2197175160)
	is(t, "by hand, none", Join(4294967295, 0, 0), 4294967295)
	is(t, "by hand, none", Join(4294967295, 4294967295, 0), 0)
	is(t, "by hand, none", Join(12, 10, 0), 6)
}

func TestJoinBelowNought(t *testing.T) {
	for _, n := range below {
		for _, a := range numbers {
			for _, b := range numbers {
				is(t, fmt.Sprintf("Join(%d, %d, %d)", a, b, n), Join(a, b, n), a^b)
			}
		}
	}
}

func TestProducts(t *testing.T) {
	chance := rand.New(rand.NewSource(7))
	for n := range 600 {
		a, b := chance.Uint32(), chance.Uint32()
		is(t, fmt.Sprintf("%d by products, %d", a, n), joinByProducts(a, b, n), joinByWords(a, b, n))
	}
	is(t, "many by products", joinByProducts(2026, 5, 1<<20+9), joinByWords(2026, 5, 1<<20+9))
}

var manyMany = []int{1<<31 - 2, 1<<31 - 1, 1 << 31, 1<<31 + 1, 1<<32 - 1, 1 << 32, 1<<32 + 1, 1 << 33, 1 << 40, 1<<61 - 1, 1 << 61, 1 << 62, 1<<62 + 1, math.MaxInt - 8, math.MaxInt - 1, math.MaxInt}

// TestJoinOfManyMany takes counts that no list could have.
func TestJoinOfManyMany(t *testing.T) {
	for _, n := range manyMany {
		for _, a := range numbers {
			for _, b := range numbers {
				is(t, fmt.Sprintf("Join(%d, %d, %d)", a, b, n), Join(a, b, n), joinByProducts(a, b, n))
			}
		}
	}
	chance := rand.New(rand.NewSource(8))
	for range 1000 {
		a, b := chance.Uint32(), chance.Uint32()
		n, m := chance.Intn(1<<62), chance.Intn(1<<62)
		is(t, fmt.Sprintf("Join(%d, %d, %d)", a, b, n), Join(a, b, n), joinByProducts(a, b, n))
		is(t, fmt.Sprintf("Join of %d and %d more", n, m), Join(Join(a, 0, n), b, m), Join(a, b, n+m))
	}
}

func TestNoughts(t *testing.T) {
	for _, c := range []struct {
		n    int
		want uint32
	}{{0, 0}, {1, 0x527D5351}, {4, 0x48674BC7}, {32, 0x8A9136AA}} {
		is(t, fmt.Sprintf("Noughts(%d)", c.n), Noughts(c.n), c.want)
	}
	zeros := make([]byte, 1<<20+1)
	for n := range 1100 {
		is(t, fmt.Sprintf("Noughts(%d)", n), Noughts(n), Of(zeros[:n]))
	}
	for _, n := range []int{4095, 4096, 65535, 65536, 65537, 1<<20 - 1, 1 << 20, 1<<20 + 1} {
		is(t, fmt.Sprintf("Noughts(%d)", n), Noughts(n), Of(zeros[:n]))
		is(t, fmt.Sprintf("Noughts(%d)", n), Noughts(n), ofByWords(zeros[:n]))
	}
}

func TestNoughtsBelowNought(t *testing.T) {
	for _, n := range below {
		is(t, fmt.Sprintf("Noughts(%d)", n), Noughts(n), 0)
	}
}

func TestNoughtsOfManyMany(t *testing.T) {
	for _, n := range manyMany {
		is(t, fmt.Sprintf("Noughts(%d)", n), Noughts(n), ^joinByProducts(4294967295, 0, n))
	}
	chance := rand.New(rand.NewSource(9))
	for range 1000 {
		n, m := chance.Intn(1<<62), chance.Intn(1<<62)
		is(t, fmt.Sprintf("Noughts(%d)", n), Noughts(n), ^joinByProducts(4294967295, 0, n))
		is(t, fmt.Sprintf("Noughts of %d and %d", n, m), Join(Noughts(n), Noughts(m), m), Noughts(n+m))
	}
}

// TestListsAreLeft: what is handed in stays as it was, spare room too, and isn't kept.
func TestListsAreLeft(t *testing.T) {
	room := []byte("123456789 and spare room")
	was := bytes.Clone(room)
	lists := [][]byte{room[:4], nil, room[4:9], []byte("spare list")}
	is(t, "Of", Of(lists[:3]...), 3808858755)
	if !bytes.Equal(room, was) {
		t.Errorf("the bytes are changed: %q", room)
	}
	if len(lists[0]) != 4 || lists[1] != nil || len(lists[2]) != 5 || string(lists[3]) != "spare list" || &lists[0][0] != &room[0] || &lists[2][0] != &room[4] {
		t.Errorf("the lists are changed: %q", lists)
	}
	clear(room)
	is(t, "Of what was written over", Of(lists[:3]...), Noughts(9))
	is(t, "Of others", Of([]byte("123456789")), 3808858755)
}

// TestAnswersStay: P1 and P2 for this layer: no argument makes a call panic, and a second asking is answered like the first.
func TestAnswersStay(t *testing.T) {
	counts := slices.Concat([]int{0, 1, 2, 3, 8, 255, 256, 65536}, manyMany, below)
	lists := [][]byte{nil, {}, {0}, {255}, []byte("123456789"), make([]byte, 300), bytes.Repeat([]byte{255}, 300)}
	tell := func(i int) [3]uint32 {
		n, a, b := counts[i%len(counts)], numbers[i%len(numbers)], numbers[i/7%len(numbers)]
		return [3]uint32{Of(lists[i%len(lists)], lists[i/5%len(lists)]), Join(a, b, n), Noughts(n)}
	}
	var first [][3]uint32
	for i := range 5000 {
		first = append(first, tell(i))
	}
	for i := len(first) - 1; i >= 0; i-- {
		if again := tell(i); again != first[i] {
			t.Errorf("%d: %v, then %v", i, first[i], again)
		}
	}
}
