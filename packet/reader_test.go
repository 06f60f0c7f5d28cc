package packet

import (
	"bytes"
	"encoding/binary"
	"fmt"
	"math"
	"math/rand"
	"slices"
	"strings"
	"testing"
)

// isBad asks a Reader again and again: nothing is read of it any more, and it never gets well.
func isBad(t *testing.T, what string, r *Reader) {
	t.Helper()
	for range 4 {
		n, m, s, e := r.Number(math.MaxUint64), r.Number(0), r.Text(math.MaxInt), r.Text(0)
		if !r.Bad() || r.Done() || n != 0 || m != 0 || s != "" || e != "" || r.Text(-1) != "" {
			t.Errorf("%s: bad %v, done %v, %d, %d, %q, %q", what, r.Bad(), r.Done(), n, m, s, e)
		}
	}
}

func noNumber(t *testing.T, b []byte, most uint64) {
	t.Helper()
	// Right numbers and texts behind what is wrong: a Reader that went on would find them.
	for _, behind := range []string{"", "\x05\x01a\x00"} {
		r := New(append(bytes.Clone(b), behind...))
		if n := r.Number(most); n != 0 {
			t.Errorf("Number of %v up to %d: %d", b, most, n)
		}
		isBad(t, fmt.Sprintf("Number of %v up to %d", b, most), r)
	}
}

func noText(t *testing.T, b string, most int) {
	t.Helper()
	r := New([]byte(b))
	if s := r.Text(most); s != "" {
		t.Errorf("Text of %q up to %d: %q", b, most, s)
	}
	isBad(t, fmt.Sprintf("Text of %q up to %d", b, most), r)
}

func isNumber(t *testing.T, b []byte, most, want uint64) {
	t.Helper()
	r := New(b)
	if n := r.Number(most); n != want || r.Bad() || !r.Done() {
		t.Errorf("Number of %v up to %d: %d, bad %v, done %v", b, most, n, r.Bad(), r.Done())
	}
}

func isText(t *testing.T, b string, most int, want string) {
	t.Helper()
	r := New([]byte(b))
	if s := r.Text(most); s != want || r.Bad() || !r.Done() {
		t.Errorf("Text of %q up to %d: %q, bad %v, done %v", b, most, s, r.Bad(), r.Done())
	}
}

func TestReaderAtNothing(t *testing.T) {
	for _, b := range [][]byte{nil, {}, append(make([]byte, 0, 9), 1, 2)[:0]} {
		r := New(b)
		if !r.Done() || r.Bad() || !r.Done() {
			t.Errorf("done %v, bad %v", r.Done(), r.Bad())
		}
		if r.Number(9) != 0 {
			t.Error("a number of nothing")
		}
		isBad(t, "a number of nothing", r)
		r = New(b)
		if r.Text(9) != "" {
			t.Error("a text of nothing")
		}
		isBad(t, "a text of nothing", r)
	}
}

func TestReaderAtItsBeginning(t *testing.T) {
	for _, b := range [][]byte{{0}, {128}, {128, 0}, []byte("some")} {
		if r := New(b); r.Done() || r.Bad() {
			t.Errorf("%v: done %v, bad %v", b, r.Done(), r.Bad())
		}
	}
}

func TestReadNumber(t *testing.T) {
	for _, c := range edges {
		isNumber(t, c.b, math.MaxUint64, c.n)
		isNumber(t, c.b, c.n, c.n)
		if c.n < math.MaxUint64 {
			isNumber(t, c.b, c.n+1, c.n)
		}
		if c.n > 0 {
			noNumber(t, c.b, c.n-1)
			noNumber(t, c.b, 0)
			noNumber(t, c.b, c.n/2)
		}
	}
}

func TestReadNumberThatEndsTooEarly(t *testing.T) {
	for _, c := range edges {
		for i := range c.b {
			r := New(c.b[:i])
			if n := r.Number(math.MaxUint64); n != 0 {
				t.Errorf("%v: %d", c.b[:i], n)
			}
			isBad(t, fmt.Sprint(c.b[:i]), r)
		}
	}
}

func TestReadNumberThatIsWrong(t *testing.T) {
	for _, most := range []uint64{0, 5, 127, 128, 1 << 20, 1 << 63, math.MaxUint64} {
		for _, b := range [][]byte{
			{128, 0}, {129, 0}, {133, 0}, {255, 0}, {128, 128, 0}, {255, 255, 0}, {128, 129, 0}, {128, 128, 128, 128, 128, 128, 128, 128, 0},
			{128, 128, 128, 128, 128, 128, 128, 128, 128, 0}, {255, 255, 255, 255, 255, 255, 255, 255, 255, 0},
			{128, 128, 128, 128, 128, 128, 128, 128, 128, 128, 0}, {255, 255, 255, 255, 255, 255, 255, 255, 255, 129, 0},
			{128, 128, 128, 128, 128, 128, 128, 128, 128, 2}, {255, 255, 255, 255, 255, 255, 255, 255, 255, 2}, {255, 255, 255, 255, 255, 255, 255, 255, 255, 3},
			{128, 128, 128, 128, 128, 128, 128, 128, 128, 64}, {255, 255, 255, 255, 255, 255, 255, 255, 255, 127},
			{128, 128, 128, 128, 128, 128, 128, 128, 128, 129, 1}, {128, 128, 128, 128, 128, 128, 128, 128, 128, 128, 1}, {255, 255, 255, 255, 255, 255, 255, 255, 255, 255, 1},
			bytes.Repeat([]byte{128}, 10), bytes.Repeat([]byte{128}, 11), bytes.Repeat([]byte{255}, 100),
			append(bytes.Repeat([]byte{128}, 64), 1), append(bytes.Repeat([]byte{129}, 100000), 1),
		} {
			noNumber(t, b, most)
		}
	}
}

// TestReadNumberHoldsToTheWords: a number is read where the library reads one and Number writes it so, and it is most at most.
func TestReadNumberHoldsToTheWords(t *testing.T) {
	chance := rand.New(rand.NewSource(1))
	parts := []byte{0, 1, 2, 127, 128, 129, 255}
	for i := range 200000 {
		b := make([]byte, chance.Intn(13))
		for j := range b {
			b[j] = byte(chance.Intn(256)) | byte(chance.Intn(2)*128)
			if chance.Intn(3) == 0 {
				b[j] = parts[chance.Intn(len(parts))]
			}
		}
		most := []uint64{math.MaxUint64, someNumber(chance)}[i%2]
		n, size := binary.Uvarint(b)
		right := size > 0 && n <= most && bytes.Equal(b[:size], numberByWords(n))
		r := New(b)
		got := r.Number(most)
		if right && (got != n || r.Bad() || r.Done() != (size == len(b))) || !right && (got != 0 || !r.Bad() || r.Done()) {
			t.Fatalf("%v up to %d: %d, bad %v, done %v", b, most, got, r.Bad(), r.Done())
		}
	}
}

func TestReadNumberAroundMost(t *testing.T) {
	for most := range uint64(700) {
		for n := range uint64(700) {
			r := New(numberByWords(n))
			got := r.Number(most)
			if n <= most && (got != n || !r.Done()) || n > most && (got != 0 || !r.Bad()) {
				t.Fatalf("%d up to %d: %d, bad %v", n, most, got, r.Bad())
			}
		}
	}
	chance := rand.New(rand.NewSource(2))
	for range 50000 {
		n, most := someNumber(chance), someNumber(chance)
		r := New(numberByWords(n))
		if got := r.Number(most); r.Bad() != (n > most) || n <= most && got != n {
			t.Fatalf("%d up to %d: %d, bad %v", n, most, got, r.Bad())
		}
	}
}

func TestReadText(t *testing.T) {
	long := strings.Repeat("x", 300)
	for _, c := range []struct {
		b    string
		want string
	}{
		{"\x00", ""}, {"\x01a", "a"}, {"\x03a\xc3\xb1", "añ"}, {"\x04\x00\xff\x80\xfe", "\x00\xff\x80\xfe"}, {"\x01\x00", "\x00"},
		{"\x7f" + long[:127], long[:127]}, {"\x80\x01" + long[:128], long[:128]}, {"\xac\x02" + long, long},
	} {
		n := len(c.want)
		for _, most := range []int{n, n + 1, n + 1000, math.MaxInt} {
			isText(t, c.b, most, c.want)
		}
		for _, most := range []int{n - 1, n/2 - 1, -1, -2, -n, -n - 1, math.MinInt, math.MinInt + 1} {
			if most != n {
				noText(t, c.b, most)
				noText(t, c.b+"\x00\x00", most)
			}
		}
		for i := range c.b {
			noText(t, c.b[:i], math.MaxInt)
		}
	}
}

func TestReadTextThatIsWrong(t *testing.T) {
	for _, b := range []string{
		"", "\x80", "\xff\xff", "\x80\x00", "\x81\x00a", "\x81\x80\x00a", "\x01", "\x03ab", "\x05abcd", "\xac\x02abc", "\x80\x80\x04", "\xff\xff\xff\xff\x07ab",
		"\xff\xff\xff\xff\xff\xff\xff\xff\x7fabc", "\xfe\xff\xff\xff\xff\xff\xff\xff\x7f", "\x80\x80\x80\x80\x80\x80\x80\x80\x80\x01abc", string(greatest), string(greatest) + "abc",
		"\x80\x80\x80\x80\x80\x80\x80\x80\x80\x02abc", strings.Repeat("\x80", 20),
	} {
		for _, most := range []int{math.MaxInt, math.MaxInt - 1, 1 << 40, 9, 0, -1, math.MinInt} {
			noText(t, b, most)
		}
	}
}

// TestBadBehindGoodOnes: a Reader gets bad by what is read last too, and what it told before stands.
func TestBadBehindGoodOnes(t *testing.T) {
	r := New(Text(Number(nil, 7, 300), "abc", "de", "f"))
	if r.Number(7) != 7 || r.Number(300) != 300 || r.Text(3) != "abc" || r.Bad() || r.Done() {
		t.Error("the good ones aren't read")
	}
	if r.Text(1) != "" {
		t.Error("a text above most is read")
	}
	isBad(t, "behind good ones", r)

	r = New(Number(nil, 7, 8, 9))
	if r.Number(7) != 7 || r.Number(7) != 0 {
		t.Error("a number above most is read")
	}
	isBad(t, "a number behind good ones", r)

	r = New([]byte{4})
	if r.Number(4) != 4 || !r.Done() || r.Text(-1) != "" {
		t.Error("below 0 at the end")
	}
	isBad(t, "below 0 at the end", r)
}

// TestReadersReadWhatWasWritten: numbers and texts in any order come back, and nothing is left.
func TestReadersReadWhatWasWritten(t *testing.T) {
	chance := rand.New(rand.NewSource(3))
	for range 2000 {
		var b []byte
		var numbers []uint64
		var texts []string
		var kinds []int
		for range chance.Intn(10) {
			kinds = append(kinds, chance.Intn(2))
			numbers = append(numbers, someNumber(chance))
			texts = append(texts, string(someBytes(chance, chance.Intn(200)*chance.Intn(2))))
		}
		for i, kind := range kinds {
			if kind == 0 {
				b = Number(b, numbers[i])
			} else {
				b = Text(b, texts[i])
			}
		}
		r := New(b)
		for i, kind := range kinds {
			if r.Done() || r.Bad() {
				t.Errorf("at %d of %d: done %v, bad %v", i, len(kinds), r.Done(), r.Bad())
			}
			if kind == 0 && r.Number(numbers[i]) != numbers[i] || kind == 1 && r.Text(len(texts[i])) != texts[i] {
				t.Errorf("at %d of %d: other than was written", i, len(kinds))
			}
		}
		if !r.Done() || r.Bad() {
			t.Errorf("at the end: done %v, bad %v", r.Done(), r.Bad())
		}
	}
}

// TestReadersAreApart: two of the same bytes do not hinder each other.
func TestReadersAreApart(t *testing.T) {
	b := Number(nil, 1, 2, 3)
	r, q := New(b), New(b)
	r.Number(0)
	if !r.Bad() || q.Bad() || q.Number(9) != 1 || q.Number(9) != 2 || q.Number(9) != 3 || !q.Done() {
		t.Error("one hinders the other")
	}
}

// TestReadersKeepNothing: what a Reader was made of stays as it was, spare room too, and may be written over; what it told stays.
func TestReadersKeepNothing(t *testing.T) {
	given, kept := withRoom(Text(Number(nil, 300), "some text", "more"))
	r := New(given)
	r.Number(300)
	s := r.Text(9)
	q := New(given)
	q.Text(-1)
	if !kept() {
		t.Error("what was handed in is changed")
	}
	clear(given[:cap(given)])
	if more := r.Text(4); s != "some text" || more != "more" || !r.Done() {
		t.Errorf("written over: %q, %q, done %v", s, more, r.Done())
	}
	given, _ = withRoom([]byte{5})
	r = New(given)
	if r.Number(5) != 5 || !r.Done() || r.Number(math.MaxUint64) != 0 || !r.Bad() {
		t.Error("spare room is read")
	}
}

// TestAnswersStay: P1 and P2 for this layer: no argument makes a call panic, and a second asking is answered like the first.
func TestAnswersStay(t *testing.T) {
	chance := rand.New(rand.NewSource(4))
	tell := func(b []byte, n uint64, most int) string {
		r, q := New(b), New(b)
		frame, size, errno := Open(b)
		return fmt.Sprint(Number(b, n), Text(b, string(b)), frame, size, errno, r.Number(n), r.Text(most), r.Done(), r.Bad(), q.Text(most), q.Number(n), q.Done(), q.Bad())
	}
	mosts := []int{math.MinInt, -1, 0, 1, 2, 9, 300, math.MaxInt}
	type asked struct {
		b      []byte
		n      uint64
		most   int
		answer string
	}
	var all []asked
	for range 3000 {
		a := asked{b: someBytes(chance, chance.Intn(20)), n: someNumber(chance), most: mosts[chance.Intn(len(mosts))]}
		a.answer = tell(a.b, a.n, a.most)
		all = append(all, a)
	}
	for _, a := range slices.Backward(all) {
		if again := tell(a.b, a.n, a.most); again != a.answer {
			t.Errorf("%v: %s, then %s", a.b, a.answer, again)
		}
	}
}
