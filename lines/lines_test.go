package lines

import (
	"fmt"
	"math"
	"math/rand"
	"slices"
	"strings"
	"testing"

	"packhorse/api"
)

var wrongSkus = []string{
	"", " ", "A", "aB", "9", "-", "9a", "-a", "a b", "a ", " a", "a_", "a\n", "a\x00", "é", "Ω", "\u03b0", "\u03ca",
	"\xff", "a\xff", "\xce", "abcdefghijklmnopq", "αβγδεζηθικλμνξοπρ",
}

var wrongQtys = []int64{math.MinInt64, math.MinInt64 + 1, -1 << 32, -1001, -1000, -2, -1, 0, 1001, 1002, 1<<16 + 1, 1<<32 + 1, 1 << 62, math.MaxInt64 - 1, math.MaxInt64}

var wrongWeights = []int64{math.MinInt64, math.MinInt64 + 1, -1 << 32, -100001, -100000, -2, -1, 100001, 100002, 1 << 32, 1<<32 + 1, 1 << 62, math.MaxInt64 - 1, math.MaxInt64}

// one spares the tables the fields' names.
func one(sku string, qty, weight int64) api.Line {
	return api.Line{Sku: sku, Qty: qty, Weight: weight}
}

// wrongLines are such that none of them alone is LINES.
func wrongLines() []api.Line {
	all := []api.Line{{}, one("b", 0, 0), one("", 1, 0), one("B", 0, -1), one("b", math.MaxInt64, math.MaxInt64), one("b", math.MinInt64, math.MinInt64)}
	for _, sku := range wrongSkus {
		all = append(all, one(sku, 1, 1))
	}
	for _, qty := range wrongQtys {
		all = append(all, one("b", qty, 1))
	}
	for _, weight := range wrongWeights {
		all = append(all, one("b", 1, weight))
	}
	return all
}

// row are n lines of unlike Skus, rising, with unlike Qtys and Weights.
func row(n int) []api.Line {
	var l []api.Line
	for i := range n {
		l = append(l, one(fmt.Sprintf("s%07d", i), int64(10*i%1000+3), int64(7*i%100000)))
	}
	return l
}

// fullest are LINES that have as much of everything as can be.
func fullest() []api.Line {
	l := row(8)
	for i := range l {
		l[i].Qty, l[i].Weight = 1000, 100000
	}
	return l
}

func rightLists() [][]api.Line {
	lists := [][]api.Line{
		{one("a", 1, 0)}, {one("a", 1, 1)}, {one("a", 1000, 0)}, {one("a", 1, 100000)}, {one("a", 999, 99999)}, {one("a", 1000, 100000)}, {one("ω", 2, 3)},
		{one("abcdefghijklmnop", 1, 1)}, {one("αβγδεζηθικλμνξοπ", 1, 1)}, {one("a---------------", 1, 1), one("a123456789012345", 1, 1)},
		{one("a", 2, 0), one("b", 4, 0)}, {one("a", 1, 5), one("aa", 1, 5)}, {one("a", 1, 5), one("a-", 1, 5), one("a0", 1, 5), one("ab", 1, 5), one("aα", 1, 5)},
		{one("ab", 1, 5), one("b", 1, 5)}, {one("box10", 1, 5), one("box9", 1, 4)}, {one("z", 1, 5), one("α", 1, 5)}, {one("zz", 1, 5), one("α", 1, 5)}, {one("c", 5, 10), one("α", 1, 7)},
		fullest(),
	}
	for n := 1; n <= 8; n++ {
		lists = append(lists, row(n))
	}
	return lists
}

func wrongLists() [][]api.Line {
	lists := [][]api.Line{
		nil, {}, row(9), row(10), row(16), row(264), row(1 << 16), make([]api.Line, 1), make([]api.Line, 9), // none, and too many
		{one("b", 1, 0), one("a", 1, 0)}, {one("α", 1, 0), one("z", 1, 0)}, {one("aa", 1, 0), one("a", 1, 0)}, {one("b", 1, 0), one("ab", 1, 0)}, {one("box9", 1, 0), one("box10", 1, 0)}, // don't rise
		{one("a", 1, 0), one("c", 1, 0), one("b", 1, 0)}, {one("c", 1, 0), one("a", 1, 0), one("b", 1, 0)}, {one("a", 1, 0), one("c", 1, 0), one("b", 1, 0), one("d", 1, 0)},
		{one("a", 1, 0), one("a", 1, 0)}, {one("a", 1, 1), one("a", 2, 1)}, {one("a", 1, 1), one("a", 1, 2)}, {one("a", 1, 0), one("b", 1, 0), one("b", 1, 0)}, {one("a", 1, 0), one("b", 1, 0), one("a", 1, 0)}, // one more than once
		slices.Repeat([]api.Line{one("a", 1, 1)}, 8),
	}
	backward := row(8)
	slices.Reverse(backward)
	lists = append(lists, backward)
	for _, wrong := range wrongLines() {
		a, c := one("a", 1, 1), one("c", 1, 1)
		lists = append(lists, []api.Line{wrong}, []api.Line{wrong, c}, []api.Line{a, wrong}, []api.Line{a, wrong, c})
	}
	for i := range 8 {
		for _, spoil := range []func(*api.Line){
			func(l *api.Line) { l.Sku += "!" }, func(l *api.Line) { l.Qty = 0 }, func(l *api.Line) { l.Qty = 1001 }, func(l *api.Line) { l.Weight = -1 }, func(l *api.Line) { l.Weight = 100001 },
		} {
			l := row(8)
			spoil(&l[i])
			lists = append(lists, l)
		}
	}
	return lists
}

func TestRight(t *testing.T) {
	for _, l := range rightLists() {
		if !Right(l) {
			t.Errorf("%v: not Right", l)
		}
	}
	for i, l := range wrongLists() {
		if Right(l) {
			t.Errorf("list %d, of %d: Right", i, len(l))
		}
	}
}

func TestRightAtEachQtyAndWeight(t *testing.T) {
	for qty := int64(-5); qty <= 1010; qty++ {
		if want := qty >= 1 && qty <= 1000; Right([]api.Line{one("a", qty, 5)}) != want {
			t.Errorf("Qty %d: %v", qty, !want)
		}
	}
	for weight := int64(-5); weight <= 100010; weight++ {
		if want := weight >= 0 && weight <= 100000; Right([]api.Line{one("a", 5, weight)}) != want {
			t.Errorf("Weight %d: %v", weight, !want)
		}
	}
}

func TestPiecesAndWeight(t *testing.T) {
	for _, c := range []struct {
		l              []api.Line
		pieces, weight int64
	}{
		{[]api.Line{one("a", 1, 0)}, 1, 0}, {[]api.Line{one("a", 1, 1)}, 1, 1}, {[]api.Line{one("a", 1000, 0)}, 1000, 0}, {[]api.Line{one("a", 1, 100000)}, 1, 100000}, {[]api.Line{one("a", 3, 7)}, 3, 21},
		{[]api.Line{one("c", 5, 10), one("α", 1, 7)}, 6, 57}, {[]api.Line{one("a", 2, 0), one("b", 4, 0)}, 6, 0}, {[]api.Line{one("a", 2, 3), one("b", 4, 5), one("c", 6, 7)}, 12, 68}, {[]api.Line{one("a", 1000, 0), one("b", 1, 100000)}, 1001, 100000},
		{[]api.Line{one("a", 1000, 100000)}, 1000, 100000000}, {fullest(), 8000, 800000000}, {fullest()[1:], 7000, 700000000},
	} {
		if got := Pieces(c.l); got != c.pieces {
			t.Errorf("Pieces(%v): %d, want %d", c.l, got, c.pieces)
		}
		if got := Weight(c.l); got != c.weight {
			t.Errorf("Weight(%v): %d, want %d", c.l, got, c.weight)
		}
	}
}

func TestPiecesAndWeightOfNoLines(t *testing.T) {
	for i, l := range wrongLists() {
		if Pieces(l) != 0 || Weight(l) != 0 {
			t.Errorf("list %d, of %d: Pieces %d, Weight %d", i, len(l), Pieces(l), Weight(l))
		}
	}
}

func mergesTo(t *testing.T, l, want []api.Line) {
	t.Helper()
	if got, e := Merge(l...); !slices.Equal(got, want) || e != api.OK {
		t.Errorf("Merge of %d: %v %d, want %v", len(l), got, e, want)
	}
}

func mergesToNone(t *testing.T, l ...api.Line) {
	t.Helper()
	if got, e := Merge(l...); len(got) != 0 || e != api.ErrLines {
		t.Errorf("Merge of %d: %v %d, want none and %d", len(l), got, e, api.ErrLines)
	}
}

func TestMerge(t *testing.T) {
	for _, c := range []struct{ l, want []api.Line }{
		{[]api.Line{one("b", 1, 0), one("a", 2, 0), one("b", 3, 0)}, []api.Line{one("a", 2, 0), one("b", 4, 0)}},
		{[]api.Line{one("c", 2, 10), one("α", 1, 7), one("c", 3, 10)}, []api.Line{one("c", 5, 10), one("α", 1, 7)}},
		{[]api.Line{one("b", 1, 9), one("a", 2, 8)}, []api.Line{one("a", 2, 8), one("b", 1, 9)}},
		{[]api.Line{one("α", 1, 0), one("zz", 1, 0), one("z", 1, 0)}, []api.Line{one("z", 1, 0), one("zz", 1, 0), one("α", 1, 0)}},
		{[]api.Line{one("box9", 1, 0), one("box10", 1, 0)}, []api.Line{one("box10", 1, 0), one("box9", 1, 0)}},
		{[]api.Line{one("a", 1, 5), one("a", 1, 5)}, []api.Line{one("a", 2, 5)}},
		{[]api.Line{one("a", 1, 0), one("a", 1, 0), one("a", 1, 0)}, []api.Line{one("a", 3, 0)}},
		{[]api.Line{one("a", 1, 100000), one("a", 999, 100000)}, []api.Line{one("a", 1000, 100000)}},
		{[]api.Line{one("a", 500, 3), one("b", 1000, 0), one("a", 500, 3)}, []api.Line{one("a", 1000, 3), one("b", 1000, 0)}},
		{slices.Repeat([]api.Line{one("a", 1, 2)}, 1000), []api.Line{one("a", 1000, 2)}},
	} {
		mergesTo(t, c.l, c.want)
	}
	for _, l := range rightLists() {
		mergesTo(t, l, l)
	}
}

// TestMergeInAnyOrder deals LINES out as many small ones, and shuffles them.
func TestMergeInAnyOrder(t *testing.T) {
	chance := rand.New(rand.NewSource(5))
	for _, want := range rightLists() {
		var dealt []api.Line
		for _, line := range want {
			for left := line.Qty; left > 0; {
				some := 1 + chance.Int63n(left)
				dealt = append(dealt, one(line.Sku, some, line.Weight))
				left -= some
			}
		}
		for range 20 {
			chance.Shuffle(len(dealt), func(a, b int) { dealt[a], dealt[b] = dealt[b], dealt[a] })
			mergesTo(t, dealt, want)
		}
	}
}

func TestMergeOfNone(t *testing.T) {
	mergesToNone(t)
	mergesToNone(t, []api.Line{}...)
}

func TestMergeOfTooMuch(t *testing.T) {
	mergesToNone(t, one("a", 1000, 1), one("a", 1, 1))
	mergesToNone(t, one("a", 1, 1), one("a", 1000, 1))
	mergesToNone(t, one("a", 500, 1), one("b", 5, 1), one("a", 501, 1))
	mergesToNone(t, one("a", 1000, 1), one("a", 1000, 1))
	mergesToNone(t, slices.Repeat([]api.Line{one("a", 1, 2)}, 1001)...)
	mergesToNone(t, slices.Repeat([]api.Line{one("a", 1000, 2)}, 1<<20)...)
	for i := range 8 {
		mergesToNone(t, append(fullest(), one(fullest()[i].Sku, 1, 100000))...)
	}
}

func TestMergeOfTooManySkus(t *testing.T) {
	mergesTo(t, row(8), row(8))
	mergesTo(t, slices.Repeat(row(8), 10), tenfold(row(8)))
	for _, n := range []int{9, 10, 264, 1 << 20} {
		l := row(n)
		mergesToNone(t, l...)
		slices.Reverse(l)
		mergesToNone(t, l...)
	}
	mergesToNone(t, append(slices.Repeat(row(8), 10), one("a", 1, 1))...)
}

func tenfold(l []api.Line) []api.Line {
	for i := range l {
		l[i].Qty *= 10
	}
	return l
}

func TestMergeOfUnlikeWeights(t *testing.T) {
	for _, c := range [][2]int64{{1, 2}, {2, 1}, {0, 1}, {1, 0}, {0, 100000}, {99999, 100000}} {
		first, second := one("a", 1, c[0]), one("a", 1, c[1])
		mergesToNone(t, first, second)
		mergesToNone(t, first, first, second)
		mergesToNone(t, first, one("b", 1, c[1]), second)
		mergesToNone(t, append(row(7), first, second)...)
		mergesTo(t, []api.Line{first, one("b", 1, c[1])}, []api.Line{one("a", 1, c[0]), one("b", 1, c[1])})
	}
}

// TestMergeOfWrongLines: each of them alone must be LINES, also where what comes together would be.
func TestMergeOfWrongLines(t *testing.T) {
	for _, wrong := range wrongLines() {
		good := one("b", 5, 1)
		mergesToNone(t, wrong)
		mergesToNone(t, wrong, wrong)
		mergesToNone(t, wrong, good)
		mergesToNone(t, good, wrong)
		mergesToNone(t, good, wrong, good)
		mergesToNone(t, append(row(7), wrong)...)
		mergesToNone(t, append(slices.Repeat([]api.Line{one("b", 1, 1)}, 999), wrong)...)
	}
	for _, l := range [][]api.Line{
		{one("b", 5, 1), one("b", 0, 1)}, {one("b", 5, 1), one("b", -1, 1)}, {one("b", 1000, 1), one("b", -1, 1), one("b", 1, 1)}, {one("b", 1001, 1), one("b", -1, 1)}, {one("b", -1, 1), one("b", 2, 1)},
		{one("b", math.MaxInt64, 1), one("b", math.MaxInt64, 1), one("b", 3, 1)}, // together 1, wrapped round
		{one("b", math.MinInt64, 1), one("b", math.MinInt64, 1), one("b", 1, 1)},
		{one("b", 1, -1), one("b", 1, -1)}, {one("b", 1, 100001), one("b", 1, 100001)}, {one("B", 1, 1), one("B", 1, 1)}, {one("", 1, 1), one("", 1, 1)},
	} {
		mergesToNone(t, l...)
	}
}

// mergedByWords goes by the chapter's own words, promise by promise.
func mergedByWords(l []api.Line) ([]api.Line, api.Errno) {
	pieces, weights := map[string]int64{}, map[string]int64{}
	for _, line := range l {
		if !Right([]api.Line{line}) {
			return nil, api.ErrLines
		}
		if weight, there := weights[line.Sku]; there && weight != line.Weight {
			return nil, api.ErrLines
		}
		pieces[line.Sku] += line.Qty
		weights[line.Sku] = line.Weight
	}
	var out []api.Line
	for sku, qty := range pieces {
		out = append(out, one(sku, qty, weights[sku]))
	}
	slices.SortFunc(out, func(a, b api.Line) int { return strings.Compare(a.Sku, b.Sku) })
	if !Right(out) {
		return nil, api.ErrLines
	}
	return out, api.OK
}

func TestMergeHoldsToTheWords(t *testing.T) {
	chance := rand.New(rand.NewSource(6))
	skus := []string{"a", "a0", "b", "ba", "c", "z", "α", "β", "ω", "ωa", "B"}
	qtys := []int64{1, 1, 2, 5, 100, 300, 500, 999, 1000, 0, 1001}
	fine := 0
	for range 50000 {
		var l []api.Line
		kinds, sizes := 1+chance.Intn(len(skus)), 1+chance.Intn(len(qtys))
		for range chance.Intn(14) {
			at := chance.Intn(kinds)
			weight := int64(at)
			if chance.Intn(40) == 0 {
				weight++
			}
			l = append(l, one(skus[at], qtys[chance.Intn(sizes)], weight))
		}
		want, wantErr := mergedByWords(l)
		if got, e := Merge(l...); !slices.Equal(got, want) || e != wantErr {
			t.Errorf("Merge(%v): %v %d, want %v %d", l, got, e, want, wantErr)
		}
		if wantErr == api.OK {
			fine++
		}
	}
	if fine < 5000 || fine > 45000 {
		t.Errorf("only one side is tried: %d of 50000 can be merged", fine)
	}
}

func TestMergeOfVeryMany(t *testing.T) {
	many := slices.Repeat([]api.Line{one("b", 1, 4), one("a", 1, 3)}, 1000)
	mergesTo(t, many, []api.Line{one("a", 1000, 3), one("b", 1000, 4)})
	for _, wrong := range []api.Line{one("a", 1, 3), one("b", 1, 4), one("c", 0, 4), one("C", 1, 4)} {
		mergesToNone(t, append(slices.Clone(many), wrong)...)
	}
	mergesTo(t, append(slices.Clone(many), one("c", 1, 4)), []api.Line{one("a", 1000, 3), one("b", 1000, 4), one("c", 1, 4)})
}

func takesTo(t *testing.T, l []api.Line, sku string, qty int64, want []api.Line) {
	t.Helper()
	if got, e := Take(l, sku, qty); !slices.Equal(got, want) || e != api.OK {
		t.Errorf("Take(%v, %q, %d): %v %d, want %v", l, sku, qty, got, e, want)
	}
}

func takesToNone(t *testing.T, l []api.Line, sku string, qty int64) {
	t.Helper()
	if got, e := Take(l, sku, qty); len(got) != 0 || e != api.ErrLines {
		t.Errorf("Take of %d lines, %q, %d: %v %d, want none and %d", len(l), sku, qty, got, e, api.ErrLines)
	}
}

func TestTake(t *testing.T) {
	two := []api.Line{one("c", 5, 10), one("α", 1, 7)}
	takesTo(t, two, "c", 1, []api.Line{one("c", 4, 10), one("α", 1, 7)})
	takesTo(t, two, "c", 4, []api.Line{one("c", 1, 10), one("α", 1, 7)})
	takesTo(t, two, "c", 5, []api.Line{one("α", 1, 7)})
	takesTo(t, two, "α", 1, []api.Line{one("c", 5, 10)})

	three := []api.Line{one("a", 1, 1), one("b", 1, 2), one("c", 1, 3)}
	takesTo(t, three, "a", 1, []api.Line{one("b", 1, 2), one("c", 1, 3)})
	takesTo(t, three, "b", 1, []api.Line{one("a", 1, 1), one("c", 1, 3)})
	takesTo(t, three, "c", 1, []api.Line{one("a", 1, 1), one("b", 1, 2)})

	alone := []api.Line{one("a", 1000, 100000)}
	takesTo(t, alone, "a", 1, []api.Line{one("a", 999, 100000)})
	takesTo(t, alone, "a", 999, []api.Line{one("a", 1, 100000)})
}

func TestTakeOfAllThatIsThere(t *testing.T) {
	takesToNone(t, []api.Line{one("a", 1, 0)}, "a", 1)
	takesToNone(t, []api.Line{one("a", 2, 0)}, "a", 2)
	takesToNone(t, []api.Line{one("a", 1000, 5)}, "a", 1000)
}

func TestTakeOfTooFewOrTooMany(t *testing.T) {
	for _, l := range rightLists() {
		for _, line := range l {
			for _, qty := range []int64{0, -1, -2, -line.Qty, -1000, -1 << 32, math.MinInt64, math.MinInt64 + 1, line.Qty + 1, line.Qty + 2, 1001, 2000, 1 << 32, 1<<32 + 1, 1 << 62, math.MaxInt64 - 1, math.MaxInt64} {
				takesToNone(t, l, line.Sku, qty)
			}
		}
	}
}

func TestTakeOfASkuThatIsNotThere(t *testing.T) {
	l := []api.Line{one("b", 5, 1), one("box", 5, 1), one("α", 5, 1)}
	for _, sku := range append([]string{"a", "ba", "bo", "bow", "boxa", "box0", "box-", "c", "z", "β", "ω"}, wrongSkus...) {
		for _, qty := range []int64{1, 5, 0, -1, 6, math.MinInt64, math.MaxInt64} {
			takesToNone(t, l, sku, qty)
			takesToNone(t, l[:1], sku, qty)
		}
	}
}

func TestTakeOfNoLines(t *testing.T) {
	for _, l := range wrongLists() {
		skus := []string{"a", "b", ""}
		if len(l) > 0 {
			skus = append(skus, l[0].Sku, l[len(l)-1].Sku)
		}
		for _, sku := range skus {
			for _, qty := range []int64{1, 0, -1, 1000, math.MinInt64, math.MaxInt64} {
				takesToNone(t, l, sku, qty)
			}
		}
	}
}

// takenByWords goes through all lines, and leaves out those of which nothing is left.
func takenByWords(l []api.Line, sku string, qty int64) []api.Line {
	var out []api.Line
	for _, line := range l {
		if line.Sku == sku {
			line.Qty -= qty
		}
		if line.Qty > 0 {
			out = append(out, line)
		}
	}
	return out
}

func TestTakeHoldsToTheWords(t *testing.T) {
	for _, l := range rightLists() {
		for _, line := range l {
			for qty := int64(1); qty <= line.Qty; qty++ {
				if want := takenByWords(l, line.Sku, qty); len(want) == 0 {
					takesToNone(t, l, line.Sku, qty)
				} else {
					takesTo(t, l, line.Sku, qty, want)
				}
			}
		}
	}
}

// TestMergeUndoesTake: what is taken and laid back is as it was, and what is left is LINES of so many pieces fewer.
func TestMergeUndoesTake(t *testing.T) {
	for _, l := range rightLists() {
		for _, line := range l {
			for _, qty := range []int64{1, (line.Qty + 1) / 2, line.Qty} {
				left, e := Take(l, line.Sku, qty)
				if e != api.OK {
					continue
				}
				if !Right(left) || Pieces(left) != Pieces(l)-qty || Weight(left) != Weight(l)-qty*line.Weight {
					t.Errorf("Take(%v, %q, %d): %v", l, line.Sku, qty, left)
				}
				mergesTo(t, append(left, one(line.Sku, qty, line.Weight)), l)
			}
		}
	}
}

func TestVeryLongSku(t *testing.T) {
	long := one(strings.Repeat("a", 1<<20), 1, 1)
	for i, l := range [][]api.Line{{long}, {one("a", 1, 1), long}, {long, one("b", 1, 1)}} {
		merged, e := Merge(l...)
		left, f := Take(l, long.Sku, 1)
		if Right(l) || Pieces(l) != 0 || Weight(l) != 0 || len(merged) != 0 || e != api.ErrLines || len(left) != 0 || f != api.ErrLines {
			t.Errorf("list %d: taken for LINES", i)
		}
	}
	takesToNone(t, row(8), long.Sku, 1)
}

// TestListsStay: a list that is handed in is left as it was, with its spare room, be it LINES or not.
func TestListsStay(t *testing.T) {
	unsorted := []api.Line{one("b", 1, 0), one("a", 2, 0), one("b", 3, 0)}
	for i, l := range slices.Concat(rightLists(), wrongLists(), [][]api.Line{unsorted}) {
		room := append(slices.Clone(l), one("spare", 7, 7), one("a", 1, 1), api.Line{})
		was := slices.Clone(room)
		given := room[:len(l)]
		Right(given)
		Pieces(given)
		Weight(given)
		Merge(given...)
		for _, line := range was[:min(len(l), 9)] {
			Take(given, line.Sku, 1)
			Take(given, line.Sku, line.Qty)
			Take(given, line.Sku, line.Qty+1)
		}
		Take(given, "none", 1)
		if !slices.Equal(room, was) {
			t.Errorf("list %d: changed", i)
		}
	}
}

// scribble writes over a list, spare room too.
func scribble(l []api.Line) {
	for i := range l[:cap(l)] {
		l[:cap(l)][i] = one("scribble", -1, -1)
	}
}

// TestAnswersAreNewMemory: what is written into one answer, spare room too, is seen in no list that was handed in and in no other answer.
func TestAnswersAreNewMemory(t *testing.T) {
	calls := map[string]func([]api.Line) ([]api.Line, api.Errno){
		"Merge":                func(l []api.Line) ([]api.Line, api.Errno) { return Merge(l...) },
		"Take of a part":       func(l []api.Line) ([]api.Line, api.Errno) { return Take(l, l[1].Sku, 1) },
		"Take of the first":    func(l []api.Line) ([]api.Line, api.Errno) { return Take(l, l[0].Sku, l[0].Qty) },
		"Take of one between":  func(l []api.Line) ([]api.Line, api.Errno) { return Take(l, l[1].Sku, l[1].Qty) },
		"Take of the last one": func(l []api.Line) ([]api.Line, api.Errno) { return Take(l, l[len(l)-1].Sku, l[len(l)-1].Qty) },
	}
	for name, call := range calls {
		for n := 3; n <= 8; n++ {
			room := append(row(n), one("spare", 7, 7))
			was := slices.Clone(room)
			given := room[:n]
			first, e := call(given)
			kept, _ := call(given)
			want := slices.Clone(kept)
			if e != api.OK || !slices.Equal(first, want) {
				t.Errorf("%s of %d: %v %d, then %v", name, n, first, e, want)
			}
			scribble(first)
			if !slices.Equal(room, was) || !slices.Equal(kept, want) {
				t.Errorf("%s of %d: an answer shares memory", name, n)
			}
			scribble(room)
			if !slices.Equal(kept, want) {
				t.Errorf("%s of %d: the list that was handed in is kept", name, n)
			}
		}
	}
}

// TestAnswersStay: P1 and P2 for this layer: no line and no list makes a call panic, and a second asking is answered like the first.
func TestAnswersStay(t *testing.T) {
	lists := slices.Concat(rightLists(), wrongLists())
	skus := append([]string{"a", "b", "c", "s0000000", "s0000007", "α"}, wrongSkus...)
	qtys := append([]int64{1, 2, 3, 1000}, wrongQtys...)
	tell := func(i int) string {
		l := lists[i%len(lists)]
		merged, e := Merge(l...)
		left, f := Take(l, skus[i%len(skus)], qtys[i%len(qtys)])
		return fmt.Sprint(Right(l), Pieces(l), Weight(l), merged, e, left, f)
	}
	var first []string
	for i := range 20000 {
		first = append(first, tell(i))
	}
	for i := len(first) - 1; i >= 0; i-- {
		if again := tell(i); again != first[i] {
			t.Errorf("%d: %s, then %s", i, first[i], again)
		}
	}
}
