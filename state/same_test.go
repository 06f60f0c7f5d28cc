package state

import (
	"fmt"
	"reflect"
	"slices"
	"testing"

	"packhorse/api"
)

// places change some state in one place each, each to what no other one makes of it.
func places() []change {
	var l changes
	l.add(func(s *api.State) {}, "nothing")
	for what, n := range map[string]func(s *api.State) *int64{
		"Waves' Weight":     func(s *api.State) *int64 { return &s.Waves.Weight },
		"Manifests' Weight": func(s *api.State) *int64 { return &s.Manifests.Weight },
		"Now":               func(s *api.State) *int64 { return &s.Now },
		"NextBatch":         func(s *api.State) *int64 { return &s.NextBatch },
		"NextKey":           func(s *api.State) *int64 { return &s.NextKey },
	} {
		l.add(func(s *api.State) { *n(s)++ }, what)
		l.add(func(s *api.State) { *n(s) += 1 << 32 }, what, ", far off")
		l.add(func(s *api.State) { *n(s) = -*n(s) }, what, ", below")
	}
	for what, n := range map[string]func(s *api.State) *int{
		"Waves' Count":     func(s *api.State) *int { return &s.Waves.Count },
		"Manifests' Count": func(s *api.State) *int { return &s.Manifests.Count },
		"Limit":            func(s *api.State) *int { return &s.Limit },
	} {
		l.add(func(s *api.State) { *n(s)++ }, what)
		l.add(func(s *api.State) { *n(s) += 1 << 32 }, what, ", far off")
	}
	l.add(func(s *api.State) { s.Waves, s.Manifests = s.Manifests, s.Waves }, "Caps swap")
	l.add(func(s *api.State) { s.NextBatch, s.NextKey = s.NextKey, s.NextBatch }, "NextBatch and NextKey swap")
	turned(&l, "door", func(s *api.State) *[]int { return &s.Doors }, 7)
	turned(&l, "order", func(s *api.State) *[]api.Order { return &s.Orders }, made("z", near(), api.Shipped, 0, 1))
	turned(&l, "batch", func(s *api.State) *[]api.Batch { return &s.Batches }, api.Batch{Id: 77})
	turned(&l, "effect", func(s *api.State) *[]api.Effect { return &s.Effects }, api.Effect{Key: 77})
	for i := range some().Doors {
		l.add(func(s *api.State) { s.Doors[i]++ }, "door ", i, " more")
	}
	for i := range some().Orders {
		l.add(func(s *api.State) { s.Orders[i].Id += "q" }, "order ", i, "'s Id")
		l.add(func(s *api.State) { s.Orders[i].Group.Carrier += "q" }, "order ", i, "'s Carrier")
		l.add(func(s *api.State) { s.Orders[i].Group.Zone += "q" }, "order ", i, "'s Zone")
		l.add(func(s *api.State) { s.Orders[i].Group.Service += "q" }, "order ", i, "'s Service")
		l.add(func(s *api.State) { s.Orders[i].Total++ }, "order ", i, "'s Total")
		l.add(func(s *api.State) { s.Orders[i].Saga.Phase += 20 }, "order ", i, "'s Phase")
		l.add(func(s *api.State) { s.Orders[i].Saga.Given = true }, "order ", i, "'s Given")
		l.add(func(s *api.State) { s.Orders[i].Saga.Refusals++ }, "order ", i, "'s Refusals")
		l.add(func(s *api.State) { s.Orders[i].Batch += 20 }, "order ", i, "'s Batch")
		turned(&l, fmt.Sprint("line of order ", i), func(s *api.State) *[]api.Line { return &s.Orders[i].Lines }, api.Line{Sku: "q"})
		for j := range some().Orders[i].Lines {
			l.add(func(s *api.State) { s.Orders[i].Lines[j].Sku += "q" }, "order ", i, " line ", j, "'s Sku")
			l.add(func(s *api.State) { s.Orders[i].Lines[j].Qty += 100 }, "order ", i, " line ", j, "'s Qty")
			l.add(func(s *api.State) { s.Orders[i].Lines[j].Weight += 100 }, "order ", i, " line ", j, "'s Weight")
		}
	}
	for i := range some().Batches {
		l.add(func(s *api.State) { s.Batches[i].Id += 100 }, "batch ", i, "'s Id")
		l.add(func(s *api.State) { s.Batches[i].Weight++ }, "batch ", i, "'s Weight")
		l.add(func(s *api.State) { s.Batches[i].Born++ }, "batch ", i, "'s Born")
		l.add(func(s *api.State) { s.Batches[i].Kind += 2 }, "batch ", i, "'s Kind")
		l.add(func(s *api.State) { s.Batches[i].Phase += 2 }, "batch ", i, "'s Phase")
		l.add(func(s *api.State) { s.Batches[i].Group.Carrier += "q" }, "batch ", i, "'s Carrier")
		l.add(func(s *api.State) { s.Batches[i].Group.Zone += "q" }, "batch ", i, "'s Zone")
		l.add(func(s *api.State) { s.Batches[i].Group.Service += "q" }, "batch ", i, "'s Service")
		turned(&l, fmt.Sprint("member of batch ", i), func(s *api.State) *[]string { return &s.Batches[i].Members }, "q")
		for j := range some().Batches[i].Members {
			l.add(func(s *api.State) { s.Batches[i].Members[j] += "q" }, "batch ", i, "'s member ", j)
		}
	}
	for i := range some().Effects {
		l.add(func(s *api.State) { s.Effects[i].Key += 100 }, "effect ", i, "'s Key")
		l.add(func(s *api.State) { s.Effects[i].Batch += 100 }, "effect ", i, "'s Batch")
		l.add(func(s *api.State) { s.Effects[i].Due++ }, "effect ", i, "'s Due")
		l.add(func(s *api.State) { s.Effects[i].Kind += 10 }, "effect ", i, "'s Kind")
		l.add(func(s *api.State) { s.Effects[i].Tries++ }, "effect ", i, "'s Tries")
		l.add(func(s *api.State) { s.Effects[i].Order += "q" }, "effect ", i, "'s Order")
	}
	return l
}

// turned changes a list as a whole.
func turned[T any](l *changes, what string, of func(s *api.State) *[]T, another T) {
	base := some()
	n := len(*of(&base))
	for i := range n {
		l.add(func(s *api.State) { *of(s) = slices.Delete(*of(s), i, i+1) }, what, " ", i, " left out")
		l.add(func(s *api.State) { *of(s) = slices.Insert(*of(s), i, another) }, what, " more at ", i)
	}
	l.add(func(s *api.State) { *of(s) = append(*of(s), another) }, what, " more at the end")
	if n > 1 {
		l.add(func(s *api.State) { *of(s) = nil }, what, ": none")
		l.add(func(s *api.State) { (*of(s))[0], (*of(s))[n-1] = (*of(s))[n-1], (*of(s))[0] }, what, ": the first and the last one swap")
	}
}

func TestSame(t *testing.T) {
	all := places()
	for i, a := range all {
		for j, b := range all {
			if j%5 != i%5 && i != 0 && j != 0 {
				continue
			}
			if got := Same(with(a.change), with(b.change)); got != (i == j) {
				t.Errorf("Same of one with %s and one with %s: %v", a.what, b.what, got)
			}
		}
	}
}

// noNil makes one of nil and empty lists.
func noNil(s api.State) api.State {
	s = deep(s)
	s.Doors, s.Orders, s.Batches, s.Effects = append([]int{}, s.Doors...), append([]api.Order{}, s.Orders...), append([]api.Batch{}, s.Batches...), append([]api.Effect{}, s.Effects...)
	for i, o := range s.Orders {
		s.Orders[i].Lines = append([]api.Line{}, o.Lines...)
	}
	for i, b := range s.Batches {
		s.Batches[i].Members = append([]string{}, b.Members...)
	}
	return s
}

func TestSameOfEachTwo(t *testing.T) {
	states, plain := allStates(), allStates()
	for i, s := range plain {
		plain[i] = noNil(s)
	}
	for i := range states {
		for j := i % 47; j < len(states); j += 47 {
			want := reflect.DeepEqual(plain[i], plain[j])
			if got := Same(states[i], states[j]); got != want || Same(states[j], states[i]) != want {
				t.Fatalf("Same of state %d and state %d: %v", i, j, got)
			}
		}
		if !Same(states[i], states[i]) || !Same(states[i], deep(states[i])) {
			t.Errorf("state %d isn't the same as itself", i)
		}
	}
}

func TestSameOfNilAndEmpty(t *testing.T) {
	for what, empty := range map[string]func(s *api.State, none bool){
		"doors":   func(s *api.State, none bool) { s.Doors = emptied(s.Doors, none) },
		"orders":  func(s *api.State, none bool) { s.Orders = emptied(s.Orders, none) },
		"batches": func(s *api.State, none bool) { s.Batches = emptied(s.Batches, none) },
		"effects": func(s *api.State, none bool) { s.Effects = emptied(s.Effects, none) },
		"lines":   func(s *api.State, none bool) { s.Orders[3].Lines = emptied(s.Orders[3].Lines, none) },
		"members": func(s *api.State, none bool) { s.Batches[3].Members = emptied(s.Batches[3].Members, none) },
	} {
		a, b := some(), some()
		empty(&a, true)
		empty(&b, false)
		if !Same(a, b) || !Same(b, a) || Same(a, some()) || Same(some(), b) {
			t.Errorf("%s: nil and empty aren't one", what)
		}
	}
	if !Same(api.State{}, api.State{Doors: []int{}, Orders: []api.Order{}, Batches: []api.Batch{}, Effects: []api.Effect{}}) {
		t.Error("a state of nothing")
	}
}

func emptied[T any](l []T, none bool) []T {
	if none {
		return nil
	}
	return l[:0]
}

func TestCopy(t *testing.T) {
	for i, x := range allStates() {
		s, asItWas := roomy(x)
		want := deep(s)
		first, second := Copy(s), Copy(s)
		if !Same(first, want) || !reflect.DeepEqual(noNil(first), noNil(want)) || !asItWas() {
			t.Errorf("state %d: %.300s", i, fmt.Sprint(first))
		}
		if sharesMemory(first, second, s) {
			t.Errorf("state %d: memory is shared", i)
		}
		scribble(first)
		if !asItWas() || !Same(second, want) {
			t.Errorf("state %d: a copy's change is seen", i)
		}
		scribble(s)
		if !Same(second, want) {
			t.Errorf("state %d: a copy is changed", i)
		}
	}
}

// TestCopyOfEachPlace: what is changed in a copy is changed there alone, and what is changed in a state isn't in its copy.
func TestCopyOfEachPlace(t *testing.T) {
	for _, c := range places()[1:] {
		s := some()
		a := Copy(s)
		c.change(&a)
		if !Same(s, some()) || Same(a, s) {
			t.Errorf("%s, in a copy: seen in the state", c.what)
		}
		a = Copy(s)
		c.change(&s)
		if !Same(a, some()) || Same(a, s) {
			t.Errorf("%s, in a state: seen in its copy", c.what)
		}
	}
}

// TestCopyOfSharedLists: lists that lie upon each other come apart.
func TestCopyOfSharedLists(t *testing.T) {
	s := some()
	for i := range s.Orders {
		s.Orders[i].Lines = s.Orders[0].Lines
	}
	for i := range s.Batches {
		s.Batches[i].Members = s.Batches[0].Members[:1]
	}
	a := Copy(s)
	if !Same(a, s) || sharesMemory(a) {
		t.Error("lists of a copy lie upon each other")
	}
	a.Orders[0].Lines[0].Qty, a.Batches[0].Members[0] = 999, "q"
	if a.Orders[1].Lines[0].Qty == 999 || a.Batches[1].Members[0] == "q" || s.Orders[0].Lines[0].Qty == 999 || s.Batches[0].Members[0] == "q" {
		t.Error("a change of one list is seen in another")
	}
}
