package halves

import (
	"fmt"
	"math/rand"
	"slices"
	"testing"

	"packhorse/api"
)

// triedByWords tells all lists that are tried, in order, if just some names are bad.
func triedByWords(names []string, isBad func(string) bool) [][]string {
	if len(names) == 0 {
		return nil
	}
	tried := [][]string{names}
	if len(names) > 1 && slices.ContainsFunc(names, isBad) {
		first, second := halvesByWords(names)
		tried = append(tried, triedByWords(first, isBad)...)
		tried = append(tried, triedByWords(second, isBad)...)
	}
	return tried
}

// finds holds what a Plan finds, and how, if just the names at these places are bad.
func finds(t *testing.T, what string, n int, places func(int) bool) {
	t.Helper()
	names := list(n)
	var good, bad []string
	isBad := map[string]bool{}
	for i, name := range names {
		isBad[name] = places(i)
		if places(i) {
			bad = append(bad, name)
		} else {
			good = append(good, name)
		}
	}
	p := newPlan(t, names...)
	tries := 0
	for _, want := range triedByWords(names, func(name string) bool { return isBad[name] }) {
		next := p.Next()
		if !slices.Equal(next, want) {
			t.Fatalf("%s of %d: try %d is %.200q, want %.200q", what, n, tries, next, want)
		}
		if errno := p.Tell(!slices.ContainsFunc(next, func(name string) bool { return isBad[name] })); errno != api.OK {
			t.Fatalf("%s of %d: %d", what, n, errno)
		}
		tries++
		if p.Tries() != tries {
			t.Fatalf("%s of %d: %d tries, want %d", what, n, p.Tries(), tries)
		}
	}
	ended(t, what, p, &plan{good: good, bad: bad, tries: tries})
	if most := Bound(n, len(bad)); p.Tries() > most {
		t.Errorf("%s of %d: %d tries, and at most %d", what, n, p.Tries(), most)
	}
}

// TestAnyBadOnes: each set of bad ones among a few names.
func TestAnyBadOnes(t *testing.T) {
	for n := range 11 {
		for set := range 1 << n {
			finds(t, fmt.Sprintf("set %b", set), n, func(i int) bool { return set>>i&1 == 1 })
		}
	}
}

func TestSomeBadOnes(t *testing.T) {
	chance := rand.New(rand.NewSource(5))
	sizes := []int{255, 256, 257, 1000, 1023, 1024, 1025, 5000}
	for n := 1; n <= 130; n++ {
		sizes = append(sizes, n)
	}
	for _, n := range sizes {
		finds(t, "none", n, func(i int) bool { return false })
		finds(t, "all", n, func(i int) bool { return true })
		finds(t, "the first", n, func(i int) bool { return i == 0 })
		finds(t, "the last", n, func(i int) bool { return i == n-1 })
		finds(t, "the first and the last", n, func(i int) bool { return i == 0 || i == n-1 })
		finds(t, "the middle", n, func(i int) bool { return i == n/2 })
		finds(t, "every other one", n, func(i int) bool { return i%2 == 0 })
		finds(t, "all others", n, func(i int) bool { return i%2 == 1 })
		finds(t, "all but the first", n, func(i int) bool { return i > 0 })
		finds(t, "all but the last", n, func(i int) bool { return i < n-1 })
		finds(t, "the first half", n, func(i int) bool { return 2*i < n })
		for _, outOf := range []int{2, 10, n} {
			set := make([]bool, n)
			for i := range set {
				set[i] = chance.Intn(outOf) == 0
			}
			finds(t, "some by chance", n, func(i int) bool { return set[i] })
		}
	}
	for n := 1; n <= 66; n++ {
		for at := range n {
			finds(t, fmt.Sprintf("number %d", at), n, func(i int) bool { return i == at })
		}
	}
}

// TestFiveOfFour: one bad one in a wave of four takes five tries, or fewer.
func TestFiveOfFour(t *testing.T) {
	for at := range 4 {
		p := newPlan(t, list(4)...)
		for range 5 {
			p.Tell(!slices.Contains(p.Next(), list(4)[at]))
		}
		if len(p.Next()) > 0 || !slices.Equal(p.Bad(), list(4)[at:at+1]) {
			t.Errorf("number %d is bad: %q, and %q is still to be tried", at, p.Bad(), p.Next())
		}
	}
}

// TestManyNames: as many as Bound is promised for.
func TestManyNames(t *testing.T) {
	const n = 1000000
	finds(t, "none", n, func(i int) bool { return false })
	finds(t, "three", n, func(i int) bool { return i == 0 || i == 499999 || i == 999999 })
	names := list(n)
	p := newPlan(t, names...)
	for i := range 2*n - 1 {
		if errno := p.Tell(false); errno != api.OK {
			t.Fatalf("try %d: %d", i, errno)
		}
	}
	ended(t, "all", p, &plan{bad: names, tries: 2*n - 1})
	if p.Tries() > Bound(n, n) {
		t.Errorf("%d tries, and at most %d", p.Tries(), Bound(n, n))
	}
}
