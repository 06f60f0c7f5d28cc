package state

import (
	"fmt"
	"math"
	"math/rand"
	"slices"
	"testing"

	"packhorse/api"
)

// pick tells one of them.
func pick[T any](r *rand.Rand, l ...T) T { return l[r.Intn(len(l))] }

// someLabel is a label of few signs, so that many begin alike.
func someLabel(r *rand.Rand) string {
	text := []rune{pick(r, []rune("abzαω")...)}
	for range r.Intn(pick(r, 2, 4, 16)) {
		text = append(text, pick(r, []rune("ab0-αω")...))
	}
	return string(text)
}

func someLines(r *rand.Rand) []api.Line {
	var skus []string
	for range 1 + r.Intn(8) {
		skus = append(skus, someLabel(r))
	}
	slices.Sort(skus)
	var l []api.Line
	for _, sku := range slices.Compact(skus) {
		l = append(l, api.Line{Sku: sku, Qty: pick(r, 1, 1000, 1+r.Int63n(1000)), Weight: pick(r, 0, 100000, r.Int63n(100001))})
	}
	return l
}

// numbered tells n numbers from 1 on that rise, and one above them, which may be right behind them; none is above MaxTally.
func numbered(r *rand.Rand, n int) ([]int64, int64) {
	step := pick[int64](r, 1, 2, 10, 1e12/int64(n+2))
	var l []int64
	at := int64(0)
	for range n {
		at += 1 + r.Int63n(step)
		l = append(l, at)
	}
	return l, pick(r, at+1, at+1+r.Int63n(step), 1e12)
}

// byChance is a state that is right, of n orders at most.
func byChance(r *rand.Rand, n int) api.State {
	caps := func() api.Caps { return api.Caps{Count: 1 + r.Intn(64), Weight: 1 + r.Int63n(1e12)} }
	s, _ := New(caps(), caps(), 1+r.Intn(100), r.Intn(96), r.Intn(96), r.Intn(96))
	s.Now = pick(r, 0, 1<<40, r.Int63n(1<<40))
	groups := []api.Group{{Carrier: someLabel(r), Zone: someLabel(r), Service: someLabel(r)}, near(), far()}
	var names []string
	for range r.Intn(n + 1) {
		names = append(names, someLabel(r))
	}
	slices.Sort(names)
	for _, id := range slices.Compact(names) {
		phase := pick(r, 1+r.Intn(12), api.Waiting+r.Intn(4))
		s.Orders = append(s.Orders, api.Order{Id: id, Lines: someLines(r), Group: pick(r, groups...), Total: r.Int63n(1e12 + 1), Saga: api.Saga{Phase: phase, Given: r.Intn(2) == 1, Refusals: r.Intn(1000001)}})
	}
	gather(r, &s)
	asksAnew(&s)
	r.Shuffle(len(s.Effects), func(i, j int) { s.Effects[i], s.Effects[j] = s.Effects[j], s.Effects[i] })
	keys, next := numbered(r, len(s.Effects))
	for i := range s.Effects {
		s.Effects[i].Key, s.Effects[i].Due, s.Effects[i].Tries = keys[i], r.Int63n(1<<40+1), r.Intn(1000001)
	}
	s.NextKey = next
	return s
}

// gather lays orders of batched phases into batches.
func gather(r *rand.Rand, s *api.State) {
	kinds := map[int][2]int{api.Waiting: {1, 1}, api.Picking: {1, 2}, api.Packed: {2, 1}, api.Sending: {2, 2}}
	most := pick(r, 1, 3, 64)
	var batches []api.Batch
	home := map[string]int{}
	for _, i := range r.Perm(len(s.Orders)) {
		o := s.Orders[i]
		kind, batched := kinds[o.Saga.Phase]
		if !batched {
			continue
		}
		at := slices.IndexFunc(batches, func(b api.Batch) bool {
			return [2]int{b.Kind, b.Phase} == kind && b.Group == o.Group && len(b.Members) < most && r.Intn(4) > 0
		})
		if at < 0 {
			at = len(batches)
			batches = append(batches, api.Batch{Born: r.Int63n(1<<40 + 1), Kind: kind[0], Phase: kind[1], Group: o.Group})
		}
		batches[at].Members = append(batches[at].Members, o.Id)
		batches[at].Weight += weightByWords(o.Lines)
		home[o.Id] = at
	}
	numbers, next := numbered(r, len(batches))
	for i := range batches {
		batches[i].Id = numbers[i]
	}
	for i, o := range s.Orders {
		if at, batched := home[o.Id]; batched {
			s.Orders[i].Batch = batches[at].Id
		}
	}
	s.Batches, s.NextBatch = batches, next
}

// turn changes one thing by chance, which may or may not leave the state right.
func turn(r *rand.Rand, s *api.State) string {
	near := func(n int64) int64 {
		return pick(r, n+1, n-1, n+2, -n, 0, 1, r.Int63n(20), 1e12, 1e12+1, 1<<40, 1<<40+1, math.MaxInt64, math.MinInt64)
	}
	label := pick(r, someLabel(r), "", "A", "zz")
	if len(s.Orders) > 0 {
		label = pick(r, label, pick(r, s.Orders...).Id)
	}
	switch at := r.Intn(5); {
	case at == 0:
		return turnSettings(r, s, near)
	case at == 1 && len(s.Orders) > 0:
		return turnOrder(r, s, near, label)
	case at == 2 && len(s.Batches) > 0:
		return turnBatch(r, s, near, label)
	case at == 3 && len(s.Effects) > 0:
		return turnEffect(r, s, near, label)
	}
	return turnLists(r, s, label)
}

func turnSettings(r *rand.Rand, s *api.State, near func(int64) int64) string {
	what := r.Intn(9)
	switch what {
	case 0:
		s.Waves.Count = int(near(int64(s.Waves.Count)))
	case 1:
		s.Waves.Weight = near(s.Waves.Weight)
	case 2:
		s.Manifests.Count = int(near(int64(s.Manifests.Count)))
	case 3:
		s.Manifests.Weight = near(s.Manifests.Weight)
	case 4:
		s.Limit = int(near(int64(s.Limit)))
	case 5:
		s.Doors[r.Intn(len(s.Doors))] = r.Intn(110) - 5
	case 6:
		s.Now = near(s.Now)
	case 7:
		s.NextBatch = near(s.NextBatch)
		if n := len(s.Batches); n > 0 && r.Intn(2) == 0 {
			s.NextBatch = s.Batches[n-1].Id + int64(r.Intn(3)) - 1
		}
	case 8:
		s.NextKey = near(s.NextKey)
		if n := len(s.Effects); n > 0 && r.Intn(2) == 0 {
			s.NextKey = s.Effects[n-1].Key + int64(r.Intn(3)) - 1
		}
	}
	return fmt.Sprint("setting ", what)
}

func turnOrder(r *rand.Rand, s *api.State, near func(int64) int64, label string) string {
	at, what := r.Intn(len(s.Orders)), r.Intn(8)
	o := &s.Orders[at]
	switch what {
	case 0:
		o.Id = label
	case 1:
		o.Lines = someLines(r)
	case 2:
		o.Lines[r.Intn(len(o.Lines))].Qty = near(1)
	case 3:
		o.Group = pick(r, s.Orders...).Group
	case 4:
		o.Total = near(o.Total)
	case 5:
		o.Saga.Phase = r.Intn(14)
	case 6:
		o.Saga.Refusals, o.Saga.Given = int(near(int64(o.Saga.Refusals))), !o.Saga.Given
	case 7:
		o.Batch = near(o.Batch)
		if len(s.Batches) > 0 {
			o.Batch = pick(r, o.Batch, pick(r, s.Batches...).Id)
		}
	}
	return fmt.Sprint("order ", at, ", ", what)
}

func turnBatch(r *rand.Rand, s *api.State, near func(int64) int64, label string) string {
	at, what := r.Intn(len(s.Batches)), r.Intn(10)
	b := &s.Batches[at]
	switch what {
	case 0:
		b.Id = near(b.Id)
	case 1:
		b.Weight = near(b.Weight)
	case 2:
		b.Born = near(b.Born)
	case 3:
		b.Kind = r.Intn(4)
	case 4:
		b.Phase = r.Intn(5)
	case 5:
		b.Group = pick(r, s.Batches...).Group
	case 6:
		b.Members = append(b.Members, label)
	case 7:
		b.Members[r.Intn(len(b.Members))] = label
	case 8:
		b.Members = b.Members[1:]
	case 9:
		slices.Reverse(b.Members)
	}
	return fmt.Sprint("batch ", at, ", ", what)
}

func turnEffect(r *rand.Rand, s *api.State, near func(int64) int64, label string) string {
	at, what := r.Intn(len(s.Effects)), r.Intn(7)
	e := &s.Effects[at]
	switch what {
	case 0:
		e.Key = near(e.Key)
	case 1:
		e.Batch = near(e.Batch)
	case 2:
		e.Due = near(e.Due)
	case 3:
		e.Kind = r.Intn(9)
	case 4:
		e.Tries = int(near(int64(e.Tries)))
	case 5:
		e.Order = label
	case 6:
		other := &s.Effects[r.Intn(len(s.Effects))]
		e.Kind, e.Batch, e.Order, other.Kind, other.Batch, other.Order = other.Kind, other.Batch, other.Order, e.Kind, e.Batch, e.Order
	}
	return fmt.Sprint("effect ", at, ", ", what)
}

// turnLists leaves something out of a list, says it twice, swaps two, or asks for something more.
func turnLists(r *rand.Rand, s *api.State, label string) string {
	what := r.Intn(4)
	how := r.Intn(3)
	switch what {
	case 0:
		s.Orders = stirred(r, s.Orders, how)
	case 1:
		s.Batches = stirred(r, s.Batches, how)
	case 2:
		s.Effects = stirred(r, s.Effects, how)
	case 3:
		if s.NextKey < 1e12 {
			e := api.Effect{Key: s.NextKey, Kind: 1 + r.Intn(7), Order: label}
			if len(s.Batches) > 0 && r.Intn(2) == 0 {
				e.Order, e.Batch = "", pick(r, s.Batches...).Id
			}
			s.Effects = append(s.Effects, e)
			s.NextKey++
		}
	}
	return fmt.Sprint("list ", what, ", ", how)
}

func stirred[T any](r *rand.Rand, l []T, how int) []T {
	if len(l) == 0 {
		return l
	}
	i, j := r.Intn(len(l)), r.Intn(len(l))
	switch how {
	case 0:
		return slices.Delete(l, i, i+1)
	case 1:
		return slices.Insert(l, j, l[i])
	}
	l[i], l[j] = l[j], l[i]
	return l
}

func TestRightByChance(t *testing.T) {
	r := rand.New(rand.NewSource(15))
	for i := range 1500 {
		s := byChance(r, pick(r, 3, 10, 40, 400))
		if !Right(s) || !rightByWords(s) {
			t.Fatalf("state %d: Right %v, by the words %v: %.1000s", i, Right(s), rightByWords(s), fmt.Sprint(s))
		}
	}
}

func TestOneThingTurnedByChance(t *testing.T) {
	r := rand.New(rand.NewSource(151))
	right, wrong := 0, 0
	for i := range 15000 {
		base := byChance(r, pick(r, 3, 10, 40))
		s := Copy(base)
		what := turn(r, &s)
		want := rightByWords(s)
		if got := Right(s); got != want {
			t.Fatalf("state %d, %s: Right %v, by the words %v: %.1000s", i, what, got, want, fmt.Sprint(s))
		}
		if want {
			right++
		} else {
			wrong++
		}
		holdsToTheWords(t, r, s)
		if !rightByWords(base) {
			t.Fatalf("state %d, %s: seen in what it is a copy of", i, what)
		}
		if asItWas := same(s, base); Same(s, base) != asItWas || Same(base, s) != asItWas || !Same(Copy(s), s) {
			t.Fatalf("state %d, %s: Same %v", i, what, Same(s, base))
		}
	}
	if right < 1500 || wrong < 5000 {
		t.Errorf("only %d are right, and %d aren't", right, wrong)
	}
}

// TestSeveralThingsTurnedByChance: what one change breaks another one may mend.
func TestSeveralThingsTurnedByChance(t *testing.T) {
	r := rand.New(rand.NewSource(152))
	right := 0
	for i := range 10000 {
		s := byChance(r, pick(r, 2, 4))
		var what []string
		for range 1 + r.Intn(4) {
			if len(s.Doors) > 0 && !slices.ContainsFunc(s.Orders, func(o api.Order) bool { return len(o.Lines) == 0 }) && !slices.ContainsFunc(s.Batches, func(b api.Batch) bool { return len(b.Members) == 0 }) {
				what = append(what, turn(r, &s))
			}
		}
		want := rightByWords(s)
		if got := Right(s); got != want {
			t.Fatalf("state %d, %v: Right %v, by the words %v: %.1000s", i, what, got, want, fmt.Sprint(s))
		}
		if want {
			right++
		}
		holdsToTheWords(t, r, s)
	}
	if right < 500 {
		t.Errorf("only %d are right", right)
	}
}

// holdsToTheWords holds what is asked of a state against a walk through it.
func holdsToTheWords(t *testing.T, r *rand.Rand, s api.State) {
	t.Helper()
	asked := []string{"zz", someLabel(r)}
	for range r.Intn(5) {
		if len(s.Orders) > 0 {
			asked = append(asked, pick(r, s.Orders...).Id)
		}
	}
	r.Shuffle(len(asked), func(i, j int) { asked[i], asked[j] = asked[j], asked[i] })
	var weight int64
	for _, id := range asked {
		want, there := orderByGoing(s, id)
		weight += weightByWords(want.Lines)
		if o, ok := Order(s, id); ok != there || !same(o, want) {
			t.Fatalf("order %q: %v %v, want %v %v", id, o, ok, want, there)
		}
	}
	if got := Weight(s, asked); got != weight {
		t.Fatalf("weight of %q: %d, want %d", asked, got, weight)
	}
	for _, b := range append(slices.Clone(s.Batches), api.Batch{Id: r.Int63n(20), Kind: r.Intn(4), Group: far()}) {
		want, there := batchByGoing(s, b.Id)
		if got, ok := Batch(s, b.Id); ok != there || !same(got, want) {
			t.Fatalf("batch %d: %v %v, want %v %v", b.Id, got, ok, want, there)
		}
		if got := Held(s, b.Kind, b.Group); !slices.Equal(got, heldByGoing(s, b.Kind, b.Group)) {
			t.Fatalf("held of kind %d and %v: %v", b.Kind, b.Group, got)
		}
	}
}
