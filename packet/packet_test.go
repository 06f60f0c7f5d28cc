package packet

import (
	"bytes"
	"fmt"
	"hash/crc32"
	"math"
	"math/rand"
	"strings"
	"testing"

	"packhorse/api"
)

var greatest = []byte{255, 255, 255, 255, 255, 255, 255, 255, 255, 1}

var edges = []struct {
	n uint64
	b []byte
}{
	{0, []byte{0}}, {1, []byte{1}}, {2, []byte{2}}, {126, []byte{126}}, {127, []byte{127}},
	{128, []byte{128, 1}}, {129, []byte{129, 1}}, {255, []byte{255, 1}}, {256, []byte{128, 2}}, {300, []byte{172, 2}},
	{16383, []byte{255, 127}}, {16384, []byte{128, 128, 1}}, {16385, []byte{129, 128, 1}},
	{65535, []byte{255, 255, 3}}, {65536, []byte{128, 128, 4}}, {65537, []byte{129, 128, 4}},
	{1<<21 - 1, []byte{255, 255, 127}}, {1 << 21, []byte{128, 128, 128, 1}},
	{1<<32 - 1, []byte{255, 255, 255, 255, 15}}, {1 << 32, []byte{128, 128, 128, 128, 16}},
	{1<<63 - 1, []byte{255, 255, 255, 255, 255, 255, 255, 255, 127}},
	{1 << 63, []byte{128, 128, 128, 128, 128, 128, 128, 128, 128, 1}},
	{math.MaxUint64 - 1, []byte{254, 255, 255, 255, 255, 255, 255, 255, 255, 1}}, {math.MaxUint64, greatest},
}

// numberByWords tells a number's bytes by divisions.
func numberByWords(n uint64) []byte {
	b := []byte{byte(n % 128)}
	for n /= 128; n > 0; n /= 128 {
		b[len(b)-1] += 128
		b = append(b, byte(n%128))
	}
	return b
}

func sealByLibrary(b []byte) []byte {
	sum := crc32.Checksum(b, crc32.MakeTable(crc32.Castagnoli))
	return []byte{byte(sum % 256), byte(sum / 256 % 256), byte(sum / 65536 % 256), byte(sum / 16777216)}
}

// frameByWords lays a frame together as the chapter tells it.
func frameByWords(kind byte, body []byte) []byte {
	b := append([]byte{0xA7, 1, kind}, numberByWords(uint64(len(body)))...)
	b = append(b, body...)
	return append(b, sealByLibrary(b)...)
}

func someBytes(chance *rand.Rand, n int) []byte {
	b := make([]byte, n)
	chance.Read(b)
	return b
}

// someNumber tells a number of any length of bits, as nearly all of 64 bits alone are ten bytes long.
func someNumber(chance *rand.Rand) uint64 {
	return chance.Uint64() >> chance.Intn(64)
}

func areBytes(t *testing.T, what string, got, want []byte) {
	t.Helper()
	if !bytes.Equal(got, want) {
		t.Errorf("%s: %v, want %v", what, got, want)
	}
}

// withRoom tells b with spare room behind it, and a way to ask whether all of it is as it was.
func withRoom(b []byte) ([]byte, func() bool) {
	room := append(bytes.Clone(b), bytes.Repeat([]byte{0xEE}, 64)...)
	was := bytes.Clone(room)
	return room[:len(b)], func() bool { return bytes.Equal(room, was) }
}

func TestNumber(t *testing.T) {
	for _, c := range edges {
		areBytes(t, fmt.Sprintf("Number of %d behind nothing", c.n), Number(nil, c.n), c.b)
		areBytes(t, fmt.Sprintf("Number of %d behind an empty list", c.n), Number([]byte{}, c.n), c.b)
		areBytes(t, fmt.Sprintf("Number of %d behind bytes", c.n), Number([]byte{9, 128, 0}, c.n), append([]byte{9, 128, 0}, c.b...))
	}
}

func TestNumberOfNone(t *testing.T) {
	for _, b := range [][]byte{nil, {}, {0}, {128}, []byte("some bytes")} {
		areBytes(t, "Number of none", Number(b), b)
		areBytes(t, "Number of an empty list", Number(b, []uint64{}...), b)
	}
}

func TestNumberOfSeveral(t *testing.T) {
	areBytes(t, "three", Number([]byte{7}, 300, 0, 128), []byte{7, 172, 2, 0, 128, 1})
	chance := rand.New(rand.NewSource(1))
	for range 500 {
		var all []uint64
		want := someBytes(chance, chance.Intn(9))
		b := bytes.Clone(want)
		for range chance.Intn(12) {
			n := someNumber(chance)
			all = append(all, n)
			want = append(want, numberByWords(n)...)
		}
		areBytes(t, fmt.Sprintf("Number of %v", all), Number(b, all...), want)
	}
}

func TestNumberHoldsToTheWords(t *testing.T) {
	for n := range uint64(70000) {
		if got := Number(nil, n); !bytes.Equal(got, numberByWords(n)) {
			t.Fatalf("Number of %d: %v", n, got)
		}
	}
	for bit := range 64 {
		for _, n := range []uint64{1<<bit - 1, 1 << bit, 1<<bit + 1} {
			areBytes(t, fmt.Sprintf("Number of %d", n), Number(nil, n), numberByWords(n))
		}
	}
}

func TestText(t *testing.T) {
	long := strings.Repeat("z", 300)
	for _, c := range []struct {
		s    []string
		want string
	}{
		{nil, ""}, {[]string{}, ""}, {[]string{""}, "\x00"}, {[]string{"", "", ""}, "\x00\x00\x00"},
		{[]string{"a"}, "\x01a"}, {[]string{"añ", ""}, "\x03a\xc3\xb1\x00"}, {[]string{"ab", "", "β9"}, "\x02ab\x00\x03\xce\xb29"},
		{[]string{"\x00\xff\x80\xfe", "\n"}, "\x04\x00\xff\x80\xfe\x01\n"},
		{[]string{long[:127]}, "\x7f" + long[:127]}, {[]string{long[:128]}, "\x80\x01" + long[:128]}, {[]string{long, "q"}, "\xac\x02" + long + "\x01q"},
	} {
		for _, b := range []string{"", "\x00", "some bytes"} {
			areBytes(t, fmt.Sprintf("Text of %q behind %q", c.s, b), Text([]byte(b), c.s...), []byte(b+c.want))
		}
		areBytes(t, fmt.Sprintf("Text of %q behind nil", c.s), Text(nil, c.s...), []byte(c.want))
	}
	great := strings.Repeat("0123456789", 10000)
	areBytes(t, "a great text", Text(nil, great), append([]byte{160, 141, 6}, great...))
}

// TestBytesAreLeft: what Number and Text are handed stays as it was, spare room too, and no answer lies in it.
func TestBytesAreLeft(t *testing.T) {
	for _, b := range [][]byte{nil, {}, {5}, []byte("a good many bytes")} {
		for what, write := range map[string]func([]byte) []byte{
			"Number of none": func(b []byte) []byte { return Number(b) },
			"Number":         func(b []byte) []byte { return Number(b, 300, 5) },
			"Text of none":   func(b []byte) []byte { return Text(b) },
			"Text of empty":  func(b []byte) []byte { return Text(b, "") },
			"Text":           func(b []byte) []byte { return Text(b, "one", "two") },
		} {
			given, kept := withRoom(b)
			got, other := write(given), write(given)
			if !kept() {
				t.Errorf("%s: what was handed in is changed", what)
			}
			was := bytes.Clone(got)
			clear(given[:cap(given)])
			clear(other[:cap(other)])
			areBytes(t, what+", the others written over", got, was)
			given, kept = withRoom(b)
			got = write(given)
			clear(got[:cap(got)])
			if !kept() {
				t.Errorf("%s: the answer lies in what was handed in", what)
			}
		}
	}
	numbers := []uint64{1, 2, 300, 4}
	Number(nil, numbers[:2]...)
	texts := []string{"a", "b", "c"}
	Text(nil, texts[:1]...)
	if fmt.Sprint(numbers, texts) != "[1 2 300 4] [a b c]" {
		t.Errorf("changed: %v %v", numbers, texts)
	}
}

func TestFrame(t *testing.T) {
	for _, c := range []struct {
		f    api.Frame
		want []byte
	}{
		{api.Frame{}, []byte{167, 1, 0, 0}},
		{api.Frame{Kind: 5, Body: []byte{}}, []byte{167, 1, 5, 0}},
		{api.Frame{Kind: 255, Body: []byte("123456789")}, []byte("\xa7\x01\xff\x09123456789")},
		{api.Frame{Kind: 167, Body: []byte{167, 1, 0, 0}}, []byte{167, 1, 167, 4, 167, 1, 0, 0}},
	} {
		got, errno := Frame(c.f)
		if errno != api.OK {
			t.Errorf("Frame of %v: %d", c.f, errno)
		}
		areBytes(t, fmt.Sprintf("Frame of %v", c.f), got, append(bytes.Clone(c.want), sealByLibrary(c.want)...))
	}
}

func TestFrameOfEachKind(t *testing.T) {
	for kind := range 256 {
		f := api.Frame{Kind: byte(kind), Body: []byte{byte(kind), 1, 0}}
		b, errno := Frame(f)
		if errno != api.OK {
			t.Errorf("kind %d: %d", kind, errno)
		}
		areBytes(t, fmt.Sprintf("kind %d", kind), b, frameByWords(f.Kind, f.Body))
		opens(t, b, f, len(b))
	}
}

func TestFrameOfEachLength(t *testing.T) {
	chance := rand.New(rand.NewSource(2))
	for _, n := range []int{0, 1, 2, 126, 127, 128, 129, 200, 300, 16382, 16383, 16384, 16385, 32768, 65534, 65535, 65536} {
		f := api.Frame{Kind: byte(n), Body: someBytes(chance, n)}
		b, errno := Frame(f)
		if errno != api.OK || !bytes.Equal(b, frameByWords(f.Kind, f.Body)) {
			t.Errorf("Frame of %d bytes: %d bytes, %d", n, len(b), errno)
		}
		opens(t, b, f, len(b))
	}
	for _, n := range []int{65537, 65538, 65536 + 128, 1 << 17, 1 << 20, 1<<24 + 1} {
		b, errno := Frame(api.Frame{Kind: 3, Body: make([]byte, n)})
		if len(b) != 0 || errno != api.ErrLong {
			t.Errorf("Frame of %d bytes: %d bytes, %d", n, len(b), errno)
		}
	}
}

func TestFrameLeavesItsBody(t *testing.T) {
	for _, n := range []int{0, 5, 300} {
		body, kept := withRoom(bytes.Repeat([]byte{'b'}, n))
		b, _ := Frame(api.Frame{Kind: 2, Body: body})
		if !kept() {
			t.Errorf("a body of %d is changed", n)
		}
		was := bytes.Clone(b)
		clear(b[:cap(b)])
		if !kept() {
			t.Errorf("a body of %d lies in the answer", n)
		}
		b, _ = Frame(api.Frame{Kind: 2, Body: body})
		clear(body[:cap(body)])
		areBytes(t, "the body written over", b, was)
	}
}
