package tally

import (
	"fmt"
	"math"
	"math/big"
	"math/rand"
	"slices"
	"testing"

	"packhorse/api"
)

const most = 1000000000000

// edges are numbers at, beside and far from the ends of what is Right, and some whose sums and products come near to them or wrap round.
var edges = []int64{
	math.MinInt64, math.MinInt64 + 1, math.MinInt64 / 2, -1 << 32, -most - 1, -most, -2, -1,
	0, 1, 2, 3, 7, 999, 1000, 1001, 999999, 1000000, 1000001, 1 << 32, 1<<32 + 1,
	most / 3, most/3 + 1, most/2 - 1, most / 2, most/2 + 1, most - 2, most - 1, most,
	most + 1, 2 * most, 1 << 61, 1 << 62, math.MaxInt64 - most, math.MaxInt64 - 1, math.MaxInt64,
}

var wrongNumbers = []int64{math.MinInt64, math.MinInt64 + 1, -most, -2, -1, most + 1, most + 2, 2 * most, 1 << 62, math.MaxInt64 - 1, math.MaxInt64}

// numbers are the edges and some between them: the same ones at each run.
func numbers() []int64 {
	chance := rand.New(rand.NewSource(2))
	all := slices.Clone(edges)
	for range 60 {
		all = append(all, chance.Int63n(most+1), chance.Int63n(2000000), chance.Int63n(1000))
	}
	return append(all, chance.Int63(), -chance.Int63())
}

// told tells the answer by numbers that never wrap round.
func told(of []int64, comes *big.Int) (int64, api.Errno) {
	for _, n := range of {
		if n < 0 || n > most {
			return 0, api.ErrTally
		}
	}
	if comes.Sign() < 0 || comes.Cmp(big.NewInt(most)) > 0 {
		return 0, api.ErrTally
	}
	return comes.Int64(), api.OK
}

func TestRight(t *testing.T) {
	for _, n := range []int64{0, 1, 2, 1000, most / 2, most - 1, most} {
		if !Right(n) {
			t.Errorf("Right(%d): false", n)
		}
	}
	for _, n := range wrongNumbers {
		if Right(n) {
			t.Errorf("Right(%d): true", n)
		}
	}
}

type pair struct {
	a, b, want int64
	err        api.Errno
}

func checkPairs(t *testing.T, name string, call func(a, b int64) (int64, api.Errno), pairs []pair) {
	t.Helper()
	for _, c := range pairs {
		if got, e := call(c.a, c.b); got != c.want || e != c.err {
			t.Errorf("%s(%d, %d): %d %d, want %d %d", name, c.a, c.b, got, e, c.want, c.err)
		}
	}
	for _, wrong := range wrongNumbers {
		for _, other := range edges {
			if got, e := call(wrong, other); got != 0 || e != api.ErrTally {
				t.Errorf("%s(%d, %d): %d %d", name, wrong, other, got, e)
			}
			if got, e := call(other, wrong); got != 0 || e != api.ErrTally {
				t.Errorf("%s(%d, %d): %d %d", name, other, wrong, got, e)
			}
		}
	}
}

func TestAdd(t *testing.T) {
	checkPairs(t, "Add", Add, []pair{
		{0, 0, 0, api.OK}, {0, 1, 1, api.OK}, {3, 4, 7, api.OK},
		{most, 0, most, api.OK}, {0, most, most, api.OK}, {most - 1, 1, most, api.OK}, {1, most - 1, most, api.OK}, {most / 2, most / 2, most, api.OK},
		{most, 1, 0, api.ErrTally}, {1, most, 0, api.ErrTally}, {most/2 + 1, most / 2, 0, api.ErrTally}, {most, most, 0, api.ErrTally},
		{-1, 1, 0, api.ErrTally}, {5, -1, 0, api.ErrTally}, {-1, -1, 0, api.ErrTally}, {most + 1, -1, 0, api.ErrTally},
		{math.MaxInt64, math.MaxInt64, 0, api.ErrTally}, {math.MinInt64, math.MinInt64, 0, api.ErrTally}, {math.MinInt64, math.MaxInt64, 0, api.ErrTally}, {math.MaxInt64, 1, 0, api.ErrTally},
	})
}

func TestLess(t *testing.T) {
	checkPairs(t, "Less", Less, []pair{
		{0, 0, 0, api.OK}, {1, 0, 1, api.OK}, {1, 1, 0, api.OK}, {7, 4, 3, api.OK},
		{most, 0, most, api.OK}, {most, 1, most - 1, api.OK}, {most, most - 1, 1, api.OK}, {most, most, 0, api.OK},
		{0, 1, 0, api.ErrTally}, {3, 4, 0, api.ErrTally}, {most - 1, most, 0, api.ErrTally}, {0, most, 0, api.ErrTally},
		{-1, -1, 0, api.ErrTally}, {-1, -2, 0, api.ErrTally}, {5, -1, 0, api.ErrTally}, {0, -1, 0, api.ErrTally},
		{most + 1, 1, 0, api.ErrTally}, {most + 1, most + 1, 0, api.ErrTally}, {most, math.MinInt64, 0, api.ErrTally},
		{math.MaxInt64, math.MaxInt64, 0, api.ErrTally}, {math.MinInt64, math.MinInt64, 0, api.ErrTally}, {math.MinInt64, math.MaxInt64, 0, api.ErrTally},
	})
}

func TestTimes(t *testing.T) {
	checkPairs(t, "Times", Times, []pair{
		{0, 0, 0, api.OK}, {0, 1, 0, api.OK}, {1, 0, 0, api.OK}, {3, 4, 12, api.OK},
		{most, 0, 0, api.OK}, {0, most, 0, api.OK}, {most, 1, most, api.OK}, {1, most, most, api.OK},
		{1000000, 1000000, most, api.OK}, {most / 2, 2, most, api.OK}, {2, most / 2, most, api.OK}, {3, most / 3, most - 1, api.OK}, {most / 3, 3, most - 1, api.OK}, {999999, 1000001, most - 1, api.OK},
		{1000000, 1000001, 0, api.ErrTally}, {1000001, 1000000, 0, api.ErrTally}, {2, most/2 + 1, 0, api.ErrTally}, {most/2 + 1, 2, 0, api.ErrTally}, {3, most/3 + 1, 0, api.ErrTally},
		{most, 2, 0, api.ErrTally}, {2, most, 0, api.ErrTally}, {most, most, 0, api.ErrTally},
		{1 << 32, 1 << 32, 0, api.ErrTally}, {1<<32 + 1, 1 << 32, 0, api.ErrTally}, {1 << 33, 1 << 31, 0, api.ErrTally}, // the product wraps round to what looks Right
		{-1, -1, 0, api.ErrTally}, {-2, -3, 0, api.ErrTally}, {0, -1, 0, api.ErrTally}, {-1, 0, 0, api.ErrTally}, {0, most + 1, 0, api.ErrTally}, {most + 1, 0, 0, api.ErrTally},
		{math.MinInt64, -1, 0, api.ErrTally}, {-1, math.MinInt64, 0, api.ErrTally}, {math.MinInt64, 0, 0, api.ErrTally}, {0, math.MaxInt64, 0, api.ErrTally}, {math.MaxInt64, math.MaxInt64, 0, api.ErrTally},
	})
}

func TestPairsHoldToGreatNumbers(t *testing.T) {
	all := numbers()
	for _, a := range all {
		for _, b := range all {
			x, y := big.NewInt(a), big.NewInt(b)
			for _, c := range []struct {
				name  string
				call  func(a, b int64) (int64, api.Errno)
				comes *big.Int
			}{
				{"Add", Add, new(big.Int).Add(x, y)},
				{"Less", Less, new(big.Int).Sub(x, y)},
				{"Times", Times, new(big.Int).Mul(x, y)},
			} {
				want, wantErr := told([]int64{a, b}, c.comes)
				if got, e := c.call(a, b); got != want || e != wantErr {
					t.Errorf("%s(%d, %d): %d %d, want %d %d", c.name, a, b, got, e, want, wantErr)
				}
			}
		}
	}
}

func TestSum(t *testing.T) {
	for _, c := range []struct {
		l    []int64
		want int64
		err  api.Errno
	}{
		{nil, 0, api.OK}, {[]int64{}, 0, api.OK},
		{[]int64{0}, 0, api.OK}, {[]int64{5}, 5, api.OK}, {[]int64{most}, most, api.OK},
		{[]int64{1, 2}, 3, api.OK}, {[]int64{4, 3, 2, 1}, 10, api.OK}, {[]int64{0, 0, 0}, 0, api.OK},
		{[]int64{most, 0, 0}, most, api.OK}, {[]int64{0, 0, most}, most, api.OK}, {[]int64{most - 2, 1, 1}, most, api.OK}, {[]int64{most / 2, 0, most / 2}, most, api.OK},
		{[]int64{most, 0, 1}, 0, api.ErrTally}, {[]int64{1, most}, 0, api.ErrTally}, {[]int64{most - 2, 1, 1, 1}, 0, api.ErrTally}, {[]int64{most, most, most}, 0, api.ErrTally},
		{[]int64{-1}, 0, api.ErrTally}, {[]int64{5, -1}, 0, api.ErrTally}, {[]int64{-1, 5}, 0, api.ErrTally}, {[]int64{1, -1, 1}, 0, api.ErrTally}, {[]int64{most, 1, -1}, 0, api.ErrTally}, {[]int64{most, -1, 1}, 0, api.ErrTally},
		{[]int64{most + 1}, 0, api.ErrTally}, {[]int64{0, most + 1, 0}, 0, api.ErrTally}, {[]int64{most + 1, -1}, 0, api.ErrTally},
		{[]int64{math.MaxInt64}, 0, api.ErrTally}, {[]int64{math.MinInt64}, 0, api.ErrTally}, {[]int64{math.MaxInt64, math.MaxInt64, 2}, 0, api.ErrTally}, {[]int64{math.MinInt64, math.MinInt64}, 0, api.ErrTally}, {[]int64{math.MinInt64, math.MaxInt64, 1}, 0, api.ErrTally},
	} {
		if got, e := Sum(c.l...); got != c.want || e != c.err {
			t.Errorf("Sum(%d): %d %d, want %d %d", c.l, got, e, c.want, c.err)
		}
	}
	if got, e := Sum(); got != 0 || e != api.OK {
		t.Errorf("Sum of none: %d %d", got, e)
	}
}

func TestSumOfMany(t *testing.T) {
	ones := slices.Repeat([]int64{1}, 1000000)
	if got, e := Sum(ones...); got != 1000000 || e != api.OK {
		t.Errorf("of ones: %d %d", got, e)
	}
	millions := slices.Repeat([]int64{1000000}, 1000000)
	if got, e := Sum(millions...); got != most || e != api.OK {
		t.Errorf("just up to MaxTally: %d %d", got, e)
	}
	if got, e := Sum(append(millions, 1)...); got != 0 || e != api.ErrTally {
		t.Errorf("just above MaxTally: %d %d", got, e)
	}
	if got, e := Sum(append(ones, -1)...); got != 0 || e != api.ErrTally {
		t.Errorf("a wrong one at the end: %d %d", got, e)
	}
	// 2^24 times 2^39 is 2^63, and twice as many wrap round to 0.
	if got, e := Sum(slices.Repeat([]int64{1 << 39}, 1<<25)...); got != 0 || e != api.ErrTally {
		t.Errorf("wrapped round: %d %d", got, e)
	}
}

func TestSumHoldsToGreatNumbers(t *testing.T) {
	chance := rand.New(rand.NewSource(3))
	all := numbers()
	for range 20000 {
		l := make([]int64, chance.Intn(8))
		comes := new(big.Int)
		for i := range l {
			l[i] = all[chance.Intn(len(all))]
			if chance.Intn(4) > 0 {
				l[i] = chance.Int63n(most / 3)
			}
			comes.Add(comes, big.NewInt(l[i]))
		}
		want, wantErr := told(l, comes)
		if got, e := Sum(l...); got != want || e != wantErr {
			t.Errorf("Sum(%d): %d %d, want %d %d", l, got, e, want, wantErr)
		}
	}
}

func TestSumLeavesItsList(t *testing.T) {
	room := []int64{1, 2, 3, 4}
	Sum(room[:2]...)
	if !slices.Equal(room, []int64{1, 2, 3, 4}) {
		t.Error(room)
	}
}

func TestShare(t *testing.T) {
	for _, c := range []struct {
		n     int64
		parts int
		want  []int64
	}{
		{7, 3, []int64{3, 2, 2}}, {8, 3, []int64{3, 3, 2}}, {9, 3, []int64{3, 3, 3}}, {11, 4, []int64{3, 3, 3, 2}},
		{0, 1, []int64{0}}, {0, 3, []int64{0, 0, 0}}, {1, 1, []int64{1}}, {1, 3, []int64{1, 0, 0}}, {2, 3, []int64{1, 1, 0}}, {3, 3, []int64{1, 1, 1}}, {4, 3, []int64{2, 1, 1}},
		{most, 1, []int64{most}}, {most - 1, 1, []int64{most - 1}}, {most, 2, []int64{most / 2, most / 2}}, {most - 1, 2, []int64{most / 2, most/2 - 1}}, {most, 3, []int64{most/3 + 1, most / 3, most / 3}},
		{0, 1000, make([]int64, 1000)}, {most, 1000, slices.Repeat([]int64{1000000000}, 1000)},
		{most - 1, 1000, append(slices.Repeat([]int64{1000000000}, 999), 999999999)},
		{999, 1000, append(slices.Repeat([]int64{1}, 999), 0)}, {1000, 1000, slices.Repeat([]int64{1}, 1000)}, {1001, 1000, append([]int64{2}, slices.Repeat([]int64{1}, 999)...)},
	} {
		if got, e := Share(c.n, c.parts); !slices.Equal(got, c.want) || e != api.OK {
			t.Errorf("Share(%d, %d): %d %d, want %d", c.n, c.parts, got, e, c.want)
		}
	}
}

func TestShareOfWrongNumbers(t *testing.T) {
	for _, parts := range []int{math.MinInt, -1000, -1, 0, 1001, 1002, 1 << 30, math.MaxInt} {
		for _, n := range edges {
			if got, e := Share(n, parts); len(got) != 0 || e != api.ErrTally {
				t.Errorf("Share(%d, %d): %d numbers, %d", n, parts, len(got), e)
			}
		}
	}
	for _, n := range wrongNumbers {
		for _, parts := range []int{1, 2, 3, 999, 1000} {
			if got, e := Share(n, parts); len(got) != 0 || e != api.ErrTally {
				t.Errorf("Share(%d, %d): %d numbers, %d", n, parts, len(got), e)
			}
		}
	}
}

// TestShareHoldsToItsPromise asks what the promise says of the numbers, and nothing of how they come about.
func TestShareHoldsToItsPromise(t *testing.T) {
	all := numbers()
	for n := range int64(40) {
		all = append(all, n)
	}
	for _, n := range all {
		if n < 0 || n > most {
			continue
		}
		for _, parts := range []int{1, 2, 3, 4, 5, 6, 7, 10, 16, 37, 64, 500, 998, 999, 1000} {
			got, e := Share(n, parts)
			if e != api.OK || len(got) != parts {
				t.Fatalf("Share(%d, %d): %d numbers, %d", n, parts, len(got), e)
			}
			var together int64
			for i, one := range got {
				together += one
				if i > 0 && one > got[i-1] {
					t.Errorf("Share(%d, %d): rises at %d", n, parts, i)
				}
			}
			if together != n || got[0]-got[parts-1] > 1 {
				t.Errorf("Share(%d, %d): %d together, from %d to %d", n, parts, together, got[0], got[parts-1])
			}
		}
	}
}

func TestShareAnswersNewMemory(t *testing.T) {
	first, _ := Share(7, 3)
	second, _ := Share(7, 3)
	for i := range first[:cap(first)] {
		first[:cap(first)][i] = -1
	}
	third, _ := Share(7, 3)
	want := []int64{3, 2, 2}
	if !slices.Equal(second, want) || !slices.Equal(third, want) {
		t.Error(second, third)
	}
}

// TestAnswersStay: P1 and P2 for this layer: no number makes a call panic, and a second asking is answered like the first.
func TestAnswersStay(t *testing.T) {
	tell := func(a, b int64) string {
		add, e := Add(a, b)
		less, f := Less(a, b)
		times, g := Times(a, b)
		sum, h := Sum(a, b, a)
		shares, i := Share(a, int(b))
		return fmt.Sprint(Right(a), add, e, less, f, times, g, sum, h, shares, i)
	}
	var first []string
	for _, a := range edges {
		for _, b := range edges {
			first = append(first, tell(a, b))
		}
	}
	for i := len(first) - 1; i >= 0; i-- {
		a, b := edges[i/len(edges)], edges[i%len(edges)]
		if again := tell(a, b); again != first[i] {
			t.Errorf("%d and %d: %s, then %s", a, b, first[i], again)
		}
	}
}
