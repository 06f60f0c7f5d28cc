package label

import (
	"fmt"
	"math"
	"regexp"
	"slices"
	"strconv"
	"strings"
	"testing"
	"unicode/utf8"

	"packhorse/api"
)

// labelShape is the chapter's definition, told a second way.
var labelShape = regexp.MustCompile(`\A[a-z\x{3b1}-\x{3c9}][a-z\x{3b1}-\x{3c9}0-9-]{0,15}\z`)

func shapedRight(s string) bool {
	return utf8.ValidString(s) && labelShape.MatchString(s)
}

// shortTexts are all texts of up to four parts, the parts chosen so that each rule of a label has some that keep and some that break it.
func shortTexts() []string {
	parts := []string{"a", "ω", "0", "8", "9", "-", " ", "B", "\xce"}
	all := []string{""}
	for from := range 1 + 9 + 81 + 729 { // all that have three parts or fewer
		for _, p := range parts {
			all = append(all, all[from]+p)
		}
	}
	return all
}

// longTexts have about as many SIGNS as a label may have.
func longTexts() []string {
	var all []string
	for n := 14; n <= 18; n++ {
		for _, tail := range []string{"", "0", "8", "9", "09", "99", "-", "ω", " ", "\xff"} {
			all = append(all, strings.Repeat("a", n-utf8.RuneCountInString(tail))+tail)
			all = append(all, strings.Repeat("ω", n-utf8.RuneCountInString(tail))+tail)
		}
		all = append(all, "a"+strings.Repeat("9", n-1), "ω"+strings.Repeat("0", n-1), strings.Repeat("9", n))
	}
	return all
}

var wrongTexts = []string{
	"", " ", "-", "0", "9", "-a", "0a", "9a", " a", "a ", "a b", "a  b",
	"A", "aA", "Z", "aZ", "`", "a`", "{", "a{", // beside a to z
	"\u03b0", "a\u03b0", "\u03ca", "a\u03ca", "Α", "aΩ", "ά", // beside α to ω
	"a/", "a:", "a,", "a.", "a_", // beside the digits and -
	"é", "aé", "я", "aя", "a٣", "a９", "a−", "a\u0301", "日", "a😀",
	"a\t", "a\n", "a\x00", "\n", "a\u00a0",
	"\xff", "a\xff", "\xce", "a\xce", "a\xceb", "\xb1", "a\xb1", // parts of an α
	"\xc1\xa1", "a\xc1\xa1", "\xe0\x8e\xb1", // an a and an α in too many bytes
	"a\xed\xa0\x80", "a\ufffd", "\ufeffa",
	"abcdefghijklmnopq", "αβγδεζηθικλμνξοπρ",
}

func TestRightAndSigns(t *testing.T) {
	for s, want := range map[string]int{
		"a": 1, "z": 1, "α": 1, "ω": 1, "ς": 1, "m": 1, "μ": 1,
		"a0": 2, "a9": 2, "a-": 2, "aα": 2, "αa": 2, "z5-": 3, "a--": 3, "ω-0": 3, "box9": 4,
		"abcdefghijklmno": 15, "abcdefghijklmnop": 16, "αβγδεζηθικλμνξοπ": 16, "a123456789012345": 16, "a---------------": 16,
	} {
		if !Right(s) || Signs(s) != want {
			t.Errorf("%q: Right %v, Signs %d, want true and %d", s, Right(s), Signs(s), want)
		}
	}
	for _, s := range wrongTexts {
		if Right(s) || Signs(s) != -1 {
			t.Errorf("%q: Right %v, Signs %d, want false and -1", s, Right(s), Signs(s))
		}
	}
}

func TestEveryRuneAsSign(t *testing.T) {
	for r := rune(0); r <= utf8.MaxRune; r++ {
		letter := r >= 0x61 && r <= 0x7a || r >= 0x3b1 && r <= 0x3c9
		sign := letter || r >= 0x30 && r <= 0x39 || r == 0x2d
		if Right(string(r)) != letter {
			t.Errorf("U+%04X alone: %v", r, !letter)
		}
		if Right("a"+string(r)) != sign {
			t.Errorf("a and U+%04X: %v", r, !sign)
		}
	}
}

func TestRightHoldsToTheShape(t *testing.T) {
	for _, s := range append(shortTexts(), longTexts()...) {
		want := -1
		if shapedRight(s) {
			want = utf8.RuneCountInString(s)
		}
		if Signs(s) != want || Right(s) != (want > 0) {
			t.Errorf("%q: Right %v, Signs %d, want %d", s, Right(s), Signs(s), want)
		}
	}
}

func TestRightOfAVeryLongText(t *testing.T) {
	for _, s := range []string{strings.Repeat("a", 1<<20), strings.Repeat("ω", 1<<20), strings.Repeat(" ", 1<<20), "a" + strings.Repeat("9", 1<<20)} {
		next, e := Next(s)
		if Right(s) || Signs(s) != -1 || Cut(s, 3) != "" || next != "" || e != api.ErrLabel {
			t.Errorf("%q ..: Right %v, Signs %d, Cut %q, Next %q %d", s[:4], Right(s), Signs(s), Cut(s, 3), next, e)
		}
	}
}

func TestCompare(t *testing.T) {
	for _, c := range []struct {
		a, b string
		want int
	}{
		{"", "", 0}, {"", "a", -1}, {"", "\x00", -1},
		{"a", "a", 0}, {"a", "b", -1}, {"a", "aa", -1}, {"ab", "b", -1}, {"box10", "box9", -1},
		{"a", "a0", -1}, {"a-", "a0", -1}, {"z", "α", -1}, {"α", "ω", -1}, {"zz", "α", -1},
		{"A", "a", -1}, {"a ", "a!", -1}, {"a\x7f", "a\x80", -1}, {"\xff", "\xff\x00", -1},
		{"\uffff", "\U00010000", -1}, {"\xce", "α", -1}, {"a\x00", "a\x00", 0}, {"a\x00a", "a\x00b", -1},
	} {
		if got := Compare(c.a, c.b); got != c.want {
			t.Errorf("Compare(%q, %q): %d, want %d", c.a, c.b, got, c.want)
		}
		if got := Compare(c.b, c.a); got != -c.want {
			t.Errorf("Compare(%q, %q): %d, want %d", c.b, c.a, got, -c.want)
		}
	}
}

func bytewise(a, b string) int {
	for i := range min(len(a), len(b)) {
		if a[i] != b[i] {
			if a[i] < b[i] {
				return -1
			}
			return 1
		}
	}
	switch {
	case len(a) < len(b):
		return -1
	case len(a) > len(b):
		return 1
	}
	return 0
}

func TestCompareGoesByBytes(t *testing.T) {
	all := append(shortTexts()[:400], wrongTexts...)
	for _, a := range all {
		for _, b := range all {
			if got := Compare(a, b); got != bytewise(a, b) {
				t.Errorf("Compare(%q, %q): %d", a, b, got)
			}
		}
	}
}

func TestJoin(t *testing.T) {
	for _, c := range []struct {
		l    []string
		want string
	}{
		{nil, ""}, {[]string{}, ""}, {[]string{"a"}, "a"}, {[]string{"a", "β", "c9"}, "a β c9"}, {[]string{"a", "a"}, "a a"},
		{[]string{""}, ""}, {[]string{"", ""}, " "}, {[]string{"a", "", "b"}, "a  b"}, {[]string{"A B", "\xff"}, "A B \xff"},
	} {
		if got := Join(c.l...); got != c.want {
			t.Errorf("Join(%q): %q, want %q", c.l, got, c.want)
		}
	}
}

func TestJoinLeavesItsList(t *testing.T) {
	room := []string{"a", "b", "c", "d"}
	Join(room[:2]...)
	if !slices.Equal(room, []string{"a", "b", "c", "d"}) {
		t.Error(room)
	}
}

func TestSplit(t *testing.T) {
	for _, want := range [][]string{nil, {"a"}, {"a", "b"}, {"a", "a"}, {"z", "a"}, {"a", "β", "c9"}, {"abcdefghijklmnop", "αβγδεζηθικλμνξοπ"}, slices.Repeat([]string{"x-1"}, 3000)} {
		got, e := Split(strings.Join(want, " "))
		if e != api.OK || !slices.Equal(got, want) {
			t.Errorf("Split: %q %d, want %q", got, e, want)
		}
	}
}

func TestSplitOfWrongTexts(t *testing.T) {
	wrong := []string{" ", "  ", "a ", " a", "a  b", "a b ", " a b", "a   b", "a B", "A b", "a\tb", "a\nb", "a\u00a0b", "a b\xff", "a \xff b", "a 9", "a - b", "a,b", strings.Repeat("a", 17), "a " + strings.Repeat("ω", 17) + " b", strings.Repeat(" ", 1<<16)}
	for _, s := range wrong {
		if l, e := Split(s); len(l) != 0 || e != api.ErrLabel {
			t.Errorf("Split(%q): %q %d", s, l, e)
		}
	}
	for _, s := range wrongTexts {
		if s == "" || s == "a b" {
			continue
		}
		if l, e := Split(s); len(l) != 0 || e != api.ErrLabel {
			t.Errorf("Split(%q): %q %d", s, l, e)
		}
		if l, e := Split("ok " + s + " ok"); len(l) != 0 || e != api.ErrLabel {
			t.Errorf("Split(ok %q ok): %q %d", s, l, e)
		}
	}
}

func TestSplitUndoesJoin(t *testing.T) {
	for _, s := range append(shortTexts(), longTexts()...) {
		want := strings.Split(s, " ")
		right := !slices.ContainsFunc(want, func(one string) bool { return !shapedRight(one) })
		got, e := Split(s)
		switch {
		case s == "":
			if len(got) != 0 || e != api.OK {
				t.Errorf("of the empty text: %q %d", got, e)
			}
		case right:
			if !slices.Equal(got, want) || e != api.OK || Join(got...) != s {
				t.Errorf("%q: %q %d", s, got, e)
			}
		default:
			if len(got) != 0 || e != api.ErrLabel {
				t.Errorf("%q: %q %d", s, got, e)
			}
		}
	}
}

func TestSplitAnswersNewMemory(t *testing.T) {
	first, _ := Split("a b c")
	second, _ := Split("a b c")
	for i := range first[:cap(first)] {
		first[:cap(first)][i] = "gone"
	}
	if !slices.Equal(second, []string{"a", "b", "c"}) {
		t.Error(second)
	}
}

func TestCut(t *testing.T) {
	for _, c := range []struct {
		s    string
		n    int
		want string
	}{
		{"abc", 1, "a"}, {"abc", 2, "ab"}, {"abc", 3, "abc"}, {"abc", 4, "abc"}, {"abc", math.MaxInt, "abc"},
		{"abc", 0, ""}, {"abc", -1, ""}, {"abc", math.MinInt, ""},
		{"αβγ", 1, "α"}, {"αβγ", 2, "αβ"}, {"αβγ", 3, "αβγ"}, {"aβ-9", 3, "aβ-"}, {"aβ-9", 2, "aβ"}, {"a", 1, "a"},
		{"abcdefghijklmnop", 15, "abcdefghijklmno"}, {"abcdefghijklmnop", 16, "abcdefghijklmnop"}, {"αβγδεζηθικλμνξοπ", 15, "αβγδεζηθικλμνξο"},
		{"abcdefghijklmnopq", 16, ""}, {"abC", 2, ""}, {"a b", 1, ""}, {"a\xff", 1, ""},
	} {
		if got := Cut(c.s, c.n); got != c.want {
			t.Errorf("Cut(%q, %d): %q, want %q", c.s, c.n, got, c.want)
		}
	}
	for _, s := range wrongTexts {
		for _, n := range []int{math.MinInt, -1, 0, 1, 2, 16, 17, math.MaxInt} {
			if got := Cut(s, n); got != "" {
				t.Errorf("Cut(%q, %d): %q", s, n, got)
			}
		}
	}
}

func TestCutHoldsToTheSigns(t *testing.T) {
	for _, s := range append(shortTexts(), longTexts()...) {
		for n := -1; n <= 18; n++ {
			want := ""
			if shapedRight(s) {
				signs := []rune(s)
				want = string(signs[:max(0, min(n, len(signs)))])
			}
			if got := Cut(s, n); got != want {
				t.Errorf("Cut(%q, %d): %q, want %q", s, n, got, want)
			}
		}
	}
}

func TestNext(t *testing.T) {
	for s, want := range map[string]string{
		"box9": "box10", "box": "box0", "a": "a0", "ω": "ω0", "a-": "a-0", "a0": "a1", "a8": "a9", "a9": "a10",
		"a09": "a10", "a00": "a01", "a009": "a010", "a089": "a090", "a099": "a100", "a19": "a20", "a99": "a100", "a998": "a999", "a999": "a1000",
		"a-1": "a-2", "a-9": "a-10", "a9-": "a9-0", "a9b": "a9b0", "a9b9": "a9b10", "a1-09": "a1-10", "α9ω9": "α9ω10", "z909": "z910",
		"abcdefghijklmno":  "abcdefghijklmno0",
		"abcdefghijklmno0": "abcdefghijklmno1",
		"abcdefghijklmn99": "",
		"abcdefghijklm99":  "abcdefghijklm100",
		"abcdefghijklmno9": "",
		"abcdefghijklmnop": "",
		"abcdefghijklmno-": "",
		"αβγδεζηθικλμνξο":  "αβγδεζηθικλμνξο0",
		"αβγδεζηθικλμνξο9": "",
		"αβγδεζηθικλμνξοπ": "",
		"a999999999999999": "",
		"a999999999999998": "a999999999999999",
		"a899999999999999": "a900000000000000",
		"a99999999999999":  "a100000000000000",
		"a000000000000000": "a000000000000001",
	} {
		wantErr := api.OK
		if want == "" {
			wantErr = api.ErrLabel
		}
		if got, e := Next(s); got != want || e != wantErr {
			t.Errorf("Next(%q): %q %d, want %q %d", s, got, e, want, wantErr)
		}
	}
	for _, s := range wrongTexts {
		if got, e := Next(s); got != "" || e != api.ErrLabel {
			t.Errorf("Next(%q): %q %d", s, got, e)
		}
	}
}

// countedNext follows the digits as a number, where the program goes by their text.
func countedNext(s string) string {
	head := strings.TrimRight(s, "0123456789")
	digits := s[len(head):]
	if digits == "" {
		return s + "0"
	}
	n, _ := strconv.Atoi(digits)
	return head + fmt.Sprintf("%0*d", len(digits), n+1)
}

func TestNextHoldsToTheNumber(t *testing.T) {
	for _, s := range append(shortTexts(), longTexts()...) {
		want, wantErr := "", api.ErrLabel
		if shapedRight(s) && shapedRight(countedNext(s)) {
			want, wantErr = countedNext(s), api.OK
		}
		if got, e := Next(s); got != want || e != wantErr {
			t.Errorf("Next(%q): %q %d, want %q %d", s, got, e, want, wantErr)
		}
	}
}

// TestAnswersStay: P1 and P2 for this layer: no text makes a call panic, and a second asking is answered like the first.
func TestAnswersStay(t *testing.T) {
	tell := func(s string, n int) string {
		l, e := Split(s)
		next, f := Next(s)
		return fmt.Sprint(Right(s), Signs(s), Compare(s, "a"), Join(s, s), l, e, Cut(s, n), next, f)
	}
	var texts []string
	for a := range 256 {
		for b := range 256 {
			texts = append(texts, string([]byte{byte(a), byte(b)}), string([]byte{'a', byte(a), byte(b), ' ', byte(b)}))
		}
	}
	var first []string
	for i, s := range texts {
		first = append(first, tell(s, i%7-2))
	}
	for i := len(texts) - 1; i >= 0; i-- {
		if again := tell(texts[i], i%7-2); again != first[i] {
			t.Errorf("%q: %s, then %s", texts[i], first[i], again)
		}
	}
}
