package halves

import (
	"fmt"
	"math/rand"
	"slices"
	"strings"
	"testing"

	"packhorse/api"
)

// plan is a second telling of the chapter's words: here the list that is tried next stands first.
type plan struct {
	untried   [][]string
	good, bad []string
	tries     int
}

func planByWords(names []string) *plan {
	if len(names) == 0 {
		return &plan{}
	}
	return &plan{untried: [][]string{names}}
}

func (w *plan) next() []string {
	if len(w.untried) == 0 {
		return nil
	}
	return w.untried[0]
}

func (w *plan) tell(good bool) api.Errno {
	if len(w.untried) == 0 {
		return 121
	}
	tried, others := w.untried[0], w.untried[1:]
	w.untried = others
	w.tries++
	if good {
		w.good = append(w.good, tried...)
	}
	if !good && len(tried) == 1 {
		w.bad = append(w.bad, tried...)
	}
	if !good && len(tried) > 1 {
		first, second := halvesByWords(tried)
		w.untried = append([][]string{first, second}, others...)
	}
	return 0
}

func newPlan(t *testing.T, names ...string) *Plan {
	t.Helper()
	p, errno := New(names...)
	if p == nil || errno != api.OK {
		t.Fatalf("%.200q: %v, %d", names, p, errno)
	}
	return p
}

// is holds all that a Plan tells against what is wanted.
func is(t *testing.T, what string, p *Plan, w *plan) {
	t.Helper()
	next, good, bad, tries := p.Next(), p.Good(), p.Bad(), p.Tries()
	if !slices.Equal(next, w.next()) {
		t.Fatalf("%s: next is %.200q, want %.200q", what, next, w.next())
	}
	if !slices.Equal(good, w.good) || !slices.Equal(bad, w.bad) || tries != w.tries {
		t.Fatalf("%s: good %.200q, bad %.200q, %d tries, want %.200q, %.200q, %d", what, good, bad, tries, w.good, w.bad, w.tries)
	}
}

// tells tells both the same, and holds them against each other.
func tells(t *testing.T, what string, p *Plan, w *plan, good bool) {
	t.Helper()
	if got, want := p.Tell(good), w.tell(good); got != want {
		t.Fatalf("%s: Tell(%v) is %d, want %d", what, good, got, want)
	}
	is(t, what, p, w)
}

// ended holds that nothing is to be tried any more, and that what is told then changes nothing.
func ended(t *testing.T, what string, p *Plan, w *plan) {
	t.Helper()
	for _, good := range []bool{true, false, false, true} {
		if next, errno := p.Next(), p.Tell(good); len(next) != 0 || errno != api.ErrHalves {
			t.Fatalf("%s: at the end next is %.200q, and Tell(%v) is %d", what, next, good, errno)
		}
		is(t, what+", at the end", p, w)
	}
}

// TestExample is the chapter's own example.
func TestExample(t *testing.T) {
	p := newPlan(t, "a", "b", "c")
	var tried []string
	for len(p.Next()) > 0 && len(tried) < 9 {
		l := p.Next()
		tried = append(tried, strings.Join(l, " "))
		if errno := p.Tell(!slices.Contains(l, "b")); errno != api.OK {
			t.Fatal(errno)
		}
	}
	if !slices.Equal(tried, []string{"a b c", "a b", "a", "b", "c"}) {
		t.Errorf("tried: %q", tried)
	}
	is(t, "example", p, &plan{good: []string{"a", "c"}, bad: []string{"b"}, tries: 5})
}

func TestPlanOfNone(t *testing.T) {
	for _, names := range [][]string{nil, {}, list(3)[:0]} {
		p := newPlan(t, names...)
		is(t, "no names", p, &plan{})
		ended(t, "no names", p, &plan{})
	}
	ended(t, "no arguments", newPlan(t), &plan{})
}

func TestPlanOfOne(t *testing.T) {
	for _, name := range []string{"a", "", " ", "ω", "A b", "\xff", "\x00", strings.Repeat("x", 1<<16)} {
		p := newPlan(t, name)
		is(t, "one", p, &plan{untried: [][]string{{name}}})
		if errno := p.Tell(true); errno != api.OK {
			t.Fatal(errno)
		}
		ended(t, "a good one", p, &plan{good: []string{name}, tries: 1})

		p = newPlan(t, name)
		if errno := p.Tell(false); errno != api.OK {
			t.Fatal(errno)
		}
		ended(t, "a bad one", p, &plan{bad: []string{name}, tries: 1})
	}
}

func TestNewOfUnlikeNames(t *testing.T) {
	for _, names := range [][]string{
		{"a", "b"}, {"b", "a"}, {"", "a"}, {"a", ""}, {"", " "}, {"a", "A"}, {"a", "a "}, {"a", "aa"}, {"a b", "a", "b"}, {"a\x00", "a"}, {"a,b", "a", "b"},
		{"\xff", "\xfe", "\ufffd", "\xff\xfe"}, {"é", "e\u0301", "e"}, {"ς", "σ"}, {"1", "01", "+1"},
		{"ab", "a", "b", "ba", "", "abc"},
	} {
		p := newPlan(t, names...)
		w := planByWords(names)
		is(t, fmt.Sprintf("%q", names), p, w)
		for len(w.untried) > 0 {
			tells(t, fmt.Sprintf("%q", names), p, w, false)
		}
		ended(t, fmt.Sprintf("%q", names), p, &plan{bad: names, tries: 2*len(names) - 1})
	}
}

func TestNewOfNamesThatStandTwice(t *testing.T) {
	lists := [][]string{
		{"a", "a"}, {"", ""}, {"\xff", "\xff"}, {"a", "a", "a"}, {"A b", "A b"},
		{"a", "a", "b"}, {"a", "b", "a"}, {"b", "a", "a"}, {"", "a", ""}, {"a", "b", "b", "a"}, {"a", "b", "a", "b"},
		{strings.Repeat("x", 1<<16), "y", strings.Repeat("x", 1<<16)},
		append(list(1000000), list(1)...), append(list(1), list(100000)...), append(list(100000), list(100000)[99999]),
	}
	for n := 2; n <= 20; n++ {
		for i := range n {
			for j := range i {
				l := list(n)
				l[i] = l[j]
				lists = append(lists, l)
			}
		}
	}
	for _, l := range lists {
		l = roomy(l)
		was := slices.Clone(l[:cap(l)])
		if p, errno := New(l...); p != nil || errno != api.ErrHalves {
			t.Errorf("%.200q: %v, %d", l, p, errno)
		}
		if !slices.Equal(l[:cap(l)], was) {
			t.Errorf("%.200q: what came in is %.200q", was, l[:cap(l)])
		}
	}
}

// TestNextOnItsWay goes through five names step by step.
func TestNextOnItsWay(t *testing.T) {
	p := newPlan(t, "e", "d", "c", "b", "a")
	for i, c := range []struct {
		next, good, bad string
		tell            bool
	}{
		{"e d c b a", "", "", false},
		{"e d c", "", "", false},
		{"e d", "", "", true},
		{"c", "e d", "", false},
		{"b a", "e d", "c", false},
		{"b", "e d", "c", true},
		{"a", "e d b", "c", false},
		{"", "e d b", "c a", false},
	} {
		for range 2 {
			is(t, fmt.Sprintf("step %d", i), p, &plan{[][]string{strings.Fields(c.next)}, strings.Fields(c.good), strings.Fields(c.bad), i})
		}
		want := api.OK
		if i == 7 {
			want = api.ErrHalves
		}
		if errno := p.Tell(c.tell); errno != want {
			t.Fatalf("step %d: %d", i, errno)
		}
	}
	if p.Tries() != 7 {
		t.Errorf("%d tries", p.Tries())
	}
}

// goOn tells a new Plan of n names these answers, and good from then on, and answers all that it was told.
func goOn(t *testing.T, n int, answers []bool) []bool {
	t.Helper()
	p, w := newPlan(t, list(n)...), planByWords(list(n))
	told := []bool{}
	for len(w.untried) > 0 {
		good := len(told) >= len(answers) || answers[len(told)]
		told = append(told, good)
		tells(t, fmt.Sprintf("%d names, %v", n, told), p, w, good)
	}
	ended(t, fmt.Sprintf("%d names, %v", n, told), p, w)
	return told
}

// TestEveryOrderOfAnswers: whatever is good and not good, also where no names could be bad so.
func TestEveryOrderOfAnswers(t *testing.T) {
	for n, want := range []int{1, 2, 5, 11, 26, 56, 122, 287, 677} {
		ways := 0
		answers := []bool{}
		for more := true; more; ways++ {
			answers = goOn(t, n, answers)
			last := len(answers) - 1
			for last >= 0 && !answers[last] {
				last--
			}
			more = last >= 0
			if more {
				answers = append(answers[:last], false)
			}
		}
		if ways != want {
			t.Errorf("%d names: %d ways, want %d", n, ways, want)
		}
	}
}

func TestAnswersByChance(t *testing.T) {
	chance := rand.New(rand.NewSource(12))
	for n := range 200 {
		for _, outOf := range []int{2, 3, 5, 20} {
			p, w := newPlan(t, list(n)...), planByWords(list(n))
			is(t, fmt.Sprintf("%d names", n), p, w)
			for len(w.untried) > 0 {
				tells(t, fmt.Sprintf("%d names", n), p, w, chance.Intn(outOf) == 0)
			}
			ended(t, fmt.Sprintf("%d names", n), p, w)
		}
	}
}

// TestWhatComesInIsNotKept: it is left as it was, and may be written over behind New.
func TestWhatComesInIsNotKept(t *testing.T) {
	for n := range 20 {
		for _, later := range []int{0, 1, 2, 5} {
			in := roomy(list(n))
			was := slices.Clone(in[:cap(in)])
			p, w := newPlan(t, in...), planByWords(list(n))
			for i := 0; len(w.untried) > 0; i++ {
				if i == later {
					overwrite(in, "in")
					was = slices.Clone(in[:cap(in)])
				}
				tells(t, fmt.Sprintf("%d names, written over behind %d tries", n, later), p, w, i%5 == 2)
				if !slices.Equal(in[:cap(in)], was) {
					t.Fatalf("%d names: what came in is %q", n, in[:cap(in)])
				}
			}
		}
	}
}

// TestAnswersAreNewMemory: what is told may be written into and laid behind, and nothing else turns.
func TestAnswersAreNewMemory(t *testing.T) {
	asks := []func(*Plan) []string{(*Plan).Next, (*Plan).Good, (*Plan).Bad}
	for n := range 40 {
		p, w := newPlan(t, list(n)...), planByWords(list(n))
		for i := 0; ; i++ {
			what := fmt.Sprintf("%d names, step %d", n, i)
			for _, ask := range asks {
				one, two := ask(p), ask(p)
				was := slices.Clone(two)
				_ = append(one, "laid", "behind", "it")
				is(t, what+", laid behind", p, w)
				overwrite(one, "over")
				is(t, what+", written over", p, w)
				if !slices.Equal(two, was) {
					t.Fatalf("%s: another answer is %q, was %q", what, two, was)
				}
			}
			if len(w.untried) == 0 {
				break
			}
			stay := [][]string{p.Next(), p.Good(), p.Bad()}
			was := [][]string{slices.Clone(stay[0]), slices.Clone(stay[1]), slices.Clone(stay[2])}
			tells(t, what, p, w, i%4 == 3)
			for k := range stay {
				if !slices.Equal(stay[k], was[k]) {
					t.Fatalf("%s: an answer that was told ahead is %q, was %q", what, stay[k], was[k])
				}
				overwrite(stay[k], "over")
			}
			is(t, what+", and those ahead written over", p, w)
		}
	}
}

// TestTwoPlans: two of the same names, told unlike answers by turns.
func TestTwoPlans(t *testing.T) {
	for n := range 40 {
		names := list(n)
		p, w := newPlan(t, names...), planByWords(list(n))
		q, x := newPlan(t, names...), planByWords(list(n))
		for i := 0; len(w.untried)+len(x.untried) > 0; i++ {
			what := fmt.Sprintf("two of %d names, step %d", n, i)
			tells(t, what, p, w, i%3 == 2)
			is(t, what, q, x)
			tells(t, what, q, x, i%4 == 1)
			is(t, what, p, w)
			overwrite(p.Next(), "over")
			overwrite(p.Good(), "over")
			overwrite(p.Bad(), "over")
			is(t, what, q, x)
		}
		ended(t, "the first", p, w)
		ended(t, "the second", q, x)
	}
}
