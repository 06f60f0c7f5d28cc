package halves

import (
	"fmt"
	"math"
	"slices"
	"testing"
)

// list is n unlike names, in no order.
func list(n int) []string {
	l := make([]string, n)
	for i := range l {
		l[i] = fmt.Sprintf("n%08d", i*7919%10000019)
	}
	return l
}

// roomy tells the same names ahead of spare room, which has names too.
func roomy(l []string) []string {
	wide := slices.Concat(l, []string{"spare", "spare", "spare"})
	return wide[:len(l)]
}

// overwrite lays one name over all that a list has, spare room too.
func overwrite(l []string, name string) {
	l = l[:cap(l)]
	for i := range l {
		l[i] = name
	}
}

// halvesByWords goes by the chapter's own words, name by name.
func halvesByWords(l []string) ([]string, []string) {
	var first, second []string
	for i, name := range l {
		if 2*i < len(l) {
			first = append(first, name)
		} else {
			second = append(second, name)
		}
	}
	return first, second
}

func TestSplit(t *testing.T) {
	for _, c := range []struct{ names, first, second []string }{
		{nil, nil, nil},
		{[]string{}, nil, nil},
		{list(5)[:0], nil, nil},
		{[]string{"a"}, []string{"a"}, nil},
		{[]string{""}, []string{""}, nil},
		{[]string{"a", "b"}, []string{"a"}, []string{"b"}},
		{[]string{"b", "a"}, []string{"b"}, []string{"a"}},
		{[]string{"a", "b", "c"}, []string{"a", "b"}, []string{"c"}},
		{[]string{"a", "b", "c", "d"}, []string{"a", "b"}, []string{"c", "d"}},
		{[]string{"e", "d", "c", "b", "a"}, []string{"e", "d", "c"}, []string{"b", "a"}},
		{[]string{"a", "b", "c", "d", "e", "f"}, []string{"a", "b", "c"}, []string{"d", "e", "f"}},
		{[]string{"a", "b", "c", "d", "e", "f", "g"}, []string{"a", "b", "c", "d"}, []string{"e", "f", "g"}},
		{[]string{"", "A b", "\xff"}, []string{"", "A b"}, []string{"\xff"}},
		{[]string{"a", "a", "b", "a"}, []string{"a", "a"}, []string{"b", "a"}},
		{[]string{"a", "a", "a"}, []string{"a", "a"}, []string{"a"}},
	} {
		if first, second := Split(c.names); !slices.Equal(first, c.first) || !slices.Equal(second, c.second) {
			t.Errorf("%q: %q, %q", c.names, first, second)
		}
	}
}

func TestSplitOfAnyNumber(t *testing.T) {
	for n := range 300 {
		splits(t, n)
	}
	for _, n := range []int{1023, 1024, 1025, 65535, 65536, 65537, 999999, 1000000} {
		splits(t, n)
	}
}

func splits(t *testing.T, n int) {
	t.Helper()
	l := list(n)
	first, second := Split(l)
	wantFirst, wantSecond := halvesByWords(l)
	if !slices.Equal(first, wantFirst) || !slices.Equal(second, wantSecond) {
		t.Errorf("%d names: %d and %d", n, len(first), len(second))
	}
	if len(first)-len(second) != n%2 {
		t.Errorf("%d names: the first half has %d, the second one %d", n, len(first), len(second))
	}
}

// TestSplitSharesNoMemory: neither half turns with what came in, with the other one, or with another answer, written into or laid behind.
func TestSplitSharesNoMemory(t *testing.T) {
	for n := range 70 {
		in := roomy(list(n))
		was := slices.Clone(in[:cap(in)])
		first, second := Split(in)
		otherFirst, otherSecond := Split(in)
		wantFirst, wantSecond := halvesByWords(list(n))
		told := func(what string, lists ...[]string) {
			t.Helper()
			for i, want := range [][]string{wantFirst, wantSecond} {
				if lists[i] != nil && !slices.Equal(lists[i], want) {
					t.Errorf("%d names, %s: half %d is %q, want %q", n, what, i, lists[i], want)
				}
			}
			if !slices.Equal(in[:cap(in)], was) {
				t.Errorf("%d names, %s: what came in is %q", n, what, in[:cap(in)])
			}
		}
		told("told", first, second)
		_ = append(first, "laid", "behind", "it")
		told("laid behind the first half", first, second)
		overwrite(first, "over")
		told("written into the first half", nil, second)
		told("written into the first half of another answer", otherFirst, otherSecond)
		overwrite(second, "over")
		told("written into another answer", otherFirst, otherSecond)
		_ = append(otherSecond, "laid", "behind", "it")
		told("laid behind the second half", otherFirst, otherSecond)
		overwrite(otherSecond, "over")
		told("written into the second half", otherFirst, nil)
		first, second = Split(in)
		overwrite(in, "in")
		was = slices.Clone(in[:cap(in)])
		told("what came in is written over", first, second)
	}
}

func TestBound(t *testing.T) {
	for _, c := range []struct{ names, bad, want int }{
		{1, 0, 1}, {1, 1, 3},
		{2, 0, 1}, {2, 1, 5}, {2, 2, 9},
		{3, 0, 1}, {3, 1, 7}, {3, 2, 13}, {3, 3, 19},
		{4, 0, 1}, {4, 1, 7}, {4, 4, 25},
		{5, 0, 1}, {5, 1, 9}, {5, 2, 17}, {5, 5, 41},
		{7, 1, 9}, {8, 1, 9}, {9, 1, 11},
		{63, 1, 15}, {64, 1, 15}, {64, 64, 897}, {65, 1, 17}, {65, 65, 1041},
		{65535, 1, 35}, {65536, 1, 35}, {65537, 1, 37},
		{524288, 1, 41}, {524289, 1, 43},
		{1000000, 0, 1}, {1000000, 1, 43}, {1000000, 999999, 41999959}, {1000000, 1000000, 42000001},
	} {
		if got := Bound(c.names, c.bad); got != c.want {
			t.Errorf("%d bad of %d: %d, want %d", c.bad, c.names, got, c.want)
		}
	}
}

func TestBoundOfWhatCantBe(t *testing.T) {
	below := []int{math.MinInt, math.MinInt + 1, -1 << 40, -1000000, -65, -2, -1}
	for _, names := range append(below, 0) {
		for _, bad := range append(below, 0, 1, 2, 1000000, math.MaxInt) {
			if got := Bound(names, bad); got != 0 {
				t.Errorf("%d bad of %d: %d", bad, names, got)
			}
		}
	}
	for _, names := range []int{1, 2, 3, 4, 5, 64, 999999, 1000000} {
		for _, bad := range append(below, names+1, names+2, 2*names+1, 1<<40, math.MaxInt-1, math.MaxInt) {
			if got := Bound(names, bad); got != 0 {
				t.Errorf("%d bad of %d: %d", bad, names, got)
			}
		}
	}
}

// boundByWords goes by the chapter's own words, power by power.
func boundByWords(names, bad int) int {
	k, power := 0, 1
	for power < names {
		k, power = k+1, 2*power
	}
	return 2*bad*(k+1) + 1
}

func TestBoundHoldsToTheWords(t *testing.T) {
	holds := func(names, bad int) {
		t.Helper()
		if got, want := Bound(names, bad), boundByWords(names, bad); got != want {
			t.Errorf("%d bad of %d: %d, want %d", bad, names, got, want)
		}
	}
	for names := 1; names <= 130; names++ {
		for bad := range names + 1 {
			holds(names, bad)
		}
	}
	for k := range 20 {
		for names := max(1, 1<<k-2); names <= 1<<k+2; names++ {
			for _, bad := range []int{0, 1, 2, names / 3, names / 2, names - 1, names} {
				holds(names, min(bad, names))
			}
		}
	}
	for names := 1; names <= 1000000; names += 997 {
		holds(names, 0)
		holds(names, names/2)
		holds(names, names)
	}
}

// TestBoundOfManyEnds: of more than 1000000 names nothing is promised, but that it answers.
func TestBoundOfManyEnds(t *testing.T) {
	many := []int{1000001, 1 << 31, 1 << 40, 1 << 62, 1<<62 + 1, math.MaxInt - 1, math.MaxInt}
	for _, names := range many {
		for _, bad := range append([]int{math.MinInt, -1, 0, 1, 1000000}, many...) {
			Bound(names, bad)
		}
	}
}
