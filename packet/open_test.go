package packet

import (
	"bytes"
	"fmt"
	"math/rand"
	"slices"
	"testing"

	"packhorse/api"
)

func opens(t *testing.T, b []byte, want api.Frame, size int) {
	t.Helper()
	f, n, errno := Open(b)
	if f.Kind != want.Kind || !bytes.Equal(f.Body, want.Body) || n != size || errno != api.OK {
		t.Errorf("Open of %d bytes: kind %d, a body of %d, %d bytes, %d", len(b), f.Kind, len(f.Body), n, errno)
	}
}

func fails(t *testing.T, what string, b []byte, want api.Errno) {
	t.Helper()
	f, n, errno := Open(b)
	if f.Kind != 0 || len(f.Body) != 0 || n != 0 || errno != want {
		t.Errorf("%s: kind %d, a body of %d, %d bytes, %d, want %d", what, f.Kind, len(f.Body), n, errno, want)
	}
}

// lengths tells what may stand where a length stands: the bytes of each, and each beginning of them.
func lengths() (whole map[string]int, begun map[string]struct{}) {
	whole, begun = map[string]int{}, map[string]struct{}{"": {}}
	for n := range api.MaxBody + 1 {
		b := numberByWords(uint64(n))
		whole[string(b)] = n
		for i := 1; i < len(b); i++ {
			begun[string(b[:i])] = struct{}{}
		}
	}
	return whole, begun
}

// openByWords goes through b byte by byte, and asks of each whether it can stand there.
func openByWords(b []byte, whole map[string]int, begun map[string]struct{}) (int, api.Errno) {
	var seal []byte
	lengthEnd, sealStart := 0, 0
	for i, x := range b {
		switch {
		case i == 0 && x != 167, i == 1 && x != 1:
			return 0, api.ErrFrame
		case i < 3:
		case lengthEnd == 0:
			n, there := whole[string(b[3:i+1])]
			_, goesOn := begun[string(b[3:i+1])]
			if !there && !goesOn {
				return 0, api.ErrFrame
			}
			if there {
				lengthEnd = i + 1
				sealStart = lengthEnd + n
			}
		case i < sealStart:
		default:
			if seal == nil {
				seal = sealByLibrary(b[:sealStart])
			}
			if x != seal[i-sealStart] {
				return 0, api.ErrFrame
			}
			if i == sealStart+3 {
				return i + 1, api.OK
			}
		}
	}
	return 0, api.ErrShort
}

func TestOpenOfNothing(t *testing.T) {
	fails(t, "nil", nil, api.ErrShort)
	fails(t, "empty", []byte{}, api.ErrShort)
	fails(t, "empty with room", append(make([]byte, 0, 9), 167, 1)[:0], api.ErrShort)
}

func TestOpenOfBeginnings(t *testing.T) {
	chance := rand.New(rand.NewSource(3))
	for _, n := range []int{0, 1, 5, 127, 128, 300, 16384} {
		f := api.Frame{Kind: byte(n), Body: someBytes(chance, n)}
		b := frameByWords(f.Kind, f.Body)
		for i := range min(len(b), 700) {
			fails(t, fmt.Sprintf("%d of %d", i, len(b)), b[:i], api.ErrShort)
			fails(t, fmt.Sprintf("%d of %d", len(b)-1-i, len(b)), b[:len(b)-1-i], api.ErrShort)
		}
		opens(t, b, f, len(b))
	}
	great := frameByWords(9, someBytes(chance, 65536))
	for _, i := range []int{0, 1, 2, 3, 4, 5, 6, 7, 65536, 65541, 65542, 65543, 65545} {
		fails(t, fmt.Sprintf("%d of the greatest", i), great[:i], api.ErrShort)
	}
}

func TestOpenWithBytesBehind(t *testing.T) {
	f := api.Frame{Kind: 9, Body: []byte("the body")}
	b := frameByWords(f.Kind, f.Body)
	for _, behind := range [][]byte{{0}, {167}, {167, 1}, {1, 2, 3}, b, make([]byte, 70000)} {
		opens(t, slices.Concat(b, behind), f, len(b))
	}
	var all []byte
	var frames []api.Frame
	chance := rand.New(rand.NewSource(4))
	for range 200 {
		f := api.Frame{Kind: byte(chance.Intn(256)), Body: someBytes(chance, chance.Intn(400))}
		b, _ := Frame(f)
		all, frames = append(all, b...), append(frames, f)
	}
	for _, f := range frames {
		opens(t, all, f, len(frameByWords(f.Kind, f.Body)))
		_, n, _ := Open(all)
		all = all[n:]
	}
	if len(all) != 0 {
		t.Errorf("%d bytes are left", len(all))
	}
}

// TestOpenOfTurnedBytes: a frame that is other in one byte is none, also with a frame's worth of bytes behind it, where a longer length would be met.
func TestOpenOfTurnedBytes(t *testing.T) {
	chance := rand.New(rand.NewSource(5))
	whole, begun := lengths()
	far := make([]byte, 1<<17)
	for _, n := range []int{0, 1, 9, 130} {
		b := frameByWords(7, someBytes(chance, n))
		for i := range b {
			for turn := 1; turn < 256; turn++ {
				b[i] ^= byte(turn)
				_, want := openByWords(b, whole, begun)
				fails(t, fmt.Sprintf("byte %d of %d turned by %d", i, len(b), turn), b, want)
				if isLength := i == 3 || i == 4 && n >= 128; want != api.ErrFrame && !isLength {
					t.Errorf("byte %d of %d turned by %d: %d is wanted", i, len(b), turn, want)
				}
				copy(far, b)
				fails(t, fmt.Sprintf("byte %d of %d turned by %d, more behind", i, len(b), turn), far, api.ErrFrame)
				b[i] ^= byte(turn)
			}
		}
		opens(t, b, api.Frame{Kind: 7, Body: b[len(b)-4-n : len(b)-4]}, len(b))
	}
}

func TestOpenOfWrongFirstBytes(t *testing.T) {
	for _, b := range [][]byte{{0}, {1}, {166}, {168}, {7}, {167, 0}, {167, 2}, {167, 167}, {167, 129}, {166, 1}, {1, 167}, {0, 1, 5}, {167, 2, 5}, {167, 0, 5, 0}, {39, 1, 5, 3, 1}} {
		fails(t, fmt.Sprint(b), b, api.ErrFrame)
	}
	for kind := range 256 {
		fails(t, "any kind", []byte{167, 1, byte(kind)}, api.ErrShort)
	}
}

// TestOpenOfLengths takes all lengths of up to two bytes, and those of three at the edges, cut off right behind and with bytes behind them.
func TestOpenOfLengths(t *testing.T) {
	whole, begun := lengths()
	chance := rand.New(rand.NewSource(6))
	far := someBytes(chance, 70000)
	tried := [][]byte{}
	for a := range 256 {
		tried = append(tried, []byte{byte(a)})
		for b := range 256 {
			tried = append(tried, []byte{byte(a), byte(b)})
		}
		for _, b := range []byte{0, 1, 127, 128, 129, 200, 254, 255} {
			for c := range 256 {
				tried = append(tried, []byte{byte(a), b, byte(c)}, []byte{128, b, byte(c), byte(a)})
			}
		}
	}
	for _, length := range tried {
		for _, b := range [][]byte{slices.Concat([]byte{167, 1, 5}, length), slices.Concat([]byte{167, 1, 5}, length, far[:9])} {
			size, want := openByWords(b, whole, begun)
			if size != 0 {
				t.Fatalf("%v is a frame", b)
			}
			fails(t, fmt.Sprint(b), b, want)
		}
	}
}

func TestOpenOfWrongLengths(t *testing.T) {
	body := make([]byte, 65536+300)
	for _, c := range []struct {
		length []byte
		n      int // so many bytes it would tell, were it right
	}{
		{[]byte{128, 0}, 0}, {[]byte{133, 0}, 5}, {[]byte{255, 0}, 127}, {[]byte{128, 128, 0}, 0}, {[]byte{172, 130, 0}, 300}, {[]byte{128, 128, 128, 0}, 0},
		{[]byte{128, 128, 132, 0}, 65536}, {[]byte{129, 128, 4}, 65537}, {[]byte{128, 129, 4}, 65664}, {[]byte{255, 255, 4}, 65536}, {[]byte{128, 128, 5}, 65536},
		{[]byte{255, 255, 127}, 65536}, {[]byte{128, 128, 128, 1}, 65536}, {[]byte{128, 128, 128, 128, 128, 128, 128, 128, 128, 2}, 0}, {greatest, 0},
		{bytes.Repeat([]byte{128}, 30), 0}, {bytes.Repeat([]byte{255}, 30), 0},
	} {
		b := append([]byte{167, 1, 5}, c.length...)
		fails(t, fmt.Sprintf("length %v, cut off", c.length), b, api.ErrFrame)
		b = append(b, body[:c.n]...)
		fails(t, fmt.Sprintf("length %v, without a seal", c.length), b, api.ErrFrame)
		b = append(b, sealByLibrary(b)...)
		fails(t, fmt.Sprintf("length %v, sealed", c.length), b, api.ErrFrame)
	}
	// A third byte can't ask for a fourth, as no length up to 65536 has one; two may stand alone, whatever they are.
	for x := range 256 {
		for y := 128; y < 256; y++ {
			fails(t, "two bytes of a length", []byte{167, 1, 5, byte(x) | 128, byte(y)}, api.ErrShort)
			fails(t, "three bytes that go on", []byte{167, 1, 5, byte(x) | 128, byte(y), byte(x) | 128}, api.ErrFrame)
		}
	}
}

// TestOpenOfWrongSeals: of a seal that is cut off, a wrong byte that is there counts.
func TestOpenOfWrongSeals(t *testing.T) {
	for _, n := range []int{0, 3, 200} {
		b := frameByWords(4, make([]byte, n))
		start := len(b) - 4
		for wrong := range 4 {
			for bit := range 8 {
				b[start+wrong] ^= 1 << bit
				for cut := range 5 {
					want := api.ErrShort
					if cut > wrong {
						want = api.ErrFrame
					}
					fails(t, fmt.Sprintf("seal's byte %d wrong, %d there", wrong, cut), b[:start+cut], want)
				}
				b[start+wrong] ^= 1 << bit
			}
		}
		slices.Reverse(b[start:])
		fails(t, "the highest first", b, api.ErrFrame)
	}
}

func TestOpenHoldsToTheWords(t *testing.T) {
	chance := rand.New(rand.NewSource(7))
	whole, begun := lengths()
	var seen [3]int
	for range 20000 {
		b := frameByWords(byte(chance.Intn(256)), someBytes(chance, chance.Intn(300)))
		for range chance.Intn(3) {
			b[chance.Intn(min(len(b), 1+chance.Intn(len(b))))] = byte(chance.Intn(256))
		}
		if chance.Intn(2) == 0 {
			b = b[:chance.Intn(len(b)+1)]
		} else {
			b = append(b, someBytes(chance, chance.Intn(5))...)
		}
		size, want := openByWords(b, whole, begun)
		if want != api.OK {
			fails(t, fmt.Sprint(b), b, want)
			seen[want-60]++
			continue
		}
		seen[0]++
		_, at, _ := number(b[3:], 65536)
		opens(t, b, api.Frame{Kind: b[2], Body: b[3+at : size-4]}, size)
	}
	for i, n := range seen {
		if n < 1000 {
			t.Errorf("answer %d came %d times alone", i, n)
		}
	}
}

// TestOpenLeavesItsBytes: what is opened stays as it was, spare room too, and no frame lies in it.
func TestOpenLeavesItsBytes(t *testing.T) {
	for _, n := range []int{0, 5, 300} {
		whole := frameByWords(6, bytes.Repeat([]byte{'b'}, n))
		b, kept := withRoom(whole)
		f, _, _ := Open(b)
		fails(t, "a beginning with the rest in its room", b[:len(b)-1], api.ErrShort)
		fails(t, "a beginning with the rest in its room", b[:3], api.ErrShort)
		if !kept() {
			t.Errorf("the bytes of a body of %d are changed", n)
		}
		other, _, _ := Open(b)
		clear(other.Body[:cap(other.Body)])
		if !kept() {
			t.Errorf("a body of %d lies in its bytes", n)
		}
		clear(b[:cap(b)])
		areBytes(t, "the bytes written over", f.Body, whole[len(whole)-4-n:len(whole)-4])
	}
}
