package state

import (
	"fmt"
	"math"
	"reflect"
	"slices"
	"strings"
	"testing"

	"packhorse/api"
)

// orderByGoing goes through all orders, and tells the first of that id.
func orderByGoing(s api.State, id string) (api.Order, bool) {
	for _, o := range s.Orders {
		if o.Id == id {
			return o, true
		}
	}
	return api.Order{}, false
}

func batchByGoing(s api.State, id int64) (api.Batch, bool) {
	for _, b := range s.Batches {
		if b.Id == id {
			return b, true
		}
	}
	return api.Batch{}, false
}

// same holds values against each other, of which nil and empty lists are one.
func same(a, b any) bool {
	return strings.ReplaceAll(fmt.Sprintf("%#v", a), "(nil)", "{}") == strings.ReplaceAll(fmt.Sprintf("%#v", b), "(nil)", "{}")
}

// wrongPlaces are states whose orders and batches don't rise, or can't be.
func wrongPlaces() []api.State {
	var l []api.State
	for i := range 19 {
		l = append(l, with(func(s *api.State) {
			s.Orders = append(slices.Clone(s.Orders[i:]), s.Orders[:i]...)
			s.Batches = append(slices.Clone(s.Batches[i%7:]), s.Batches[:i%7]...)
		}))
	}
	l = append(l,
		with(func(s *api.State) { slices.Reverse(s.Orders); slices.Reverse(s.Batches) }),
		with(func(s *api.State) { s.Orders[3].Id, s.Batches[3].Id = "", 0 }),
		with(func(s *api.State) { s.Orders[3].Id, s.Batches[3].Id = "A B", -5 }),
		with(func(s *api.State) { s.Orders[3].Id, s.Batches[3].Id = "\xff", math.MaxInt64 }),
		with(func(s *api.State) { s.Orders[18].Lines, s.Batches[6].Members = nil, nil }),
		with(func(s *api.State) { s.Orders[0].Lines, s.Batches[0].Members = nil, nil }),
	)
	return l
}

func TestOrderAndBatch(t *testing.T) {
	states := append(allStates(), wrongPlaces()...)
	for i, s := range states {
		asked := append(ids(s), "", "a", "a-", "a-1", "a-3", "α", "β", "γ", "zz", "A", "l", "\xff", "A B")
		if len(asked) > 60 {
			asked = asked[:60]
		}
		for _, id := range asked {
			o, ok := Order(s, id)
			want, there := orderByGoing(s, id)
			if ok != there || !same(o, want) {
				t.Errorf("state %d, order %q: %v %v", i, id, o, ok)
			}
		}
		numbers := []int64{math.MinInt64, -5, -1, 0, 1, 2, 3, 4, 5, 6, 7, 8, 9, 10, 11, 12, 1<<32 + 2, 1000000000000, math.MaxInt64}
		for _, b := range s.Batches[:min(60, len(s.Batches))] {
			numbers = append(numbers, b.Id)
		}
		for _, id := range numbers {
			b, ok := Batch(s, id)
			want, there := batchByGoing(s, id)
			if ok != there || !same(b, want) {
				t.Errorf("state %d, batch %d: %v %v", i, id, b, ok)
			}
		}
	}
}

func TestOrderAndBatchThatAreNot(t *testing.T) {
	for _, id := range []string{"", " ", "a", "a-", "a-11", "A-1", "b ", "α0", "γ", "zz", strings.Repeat("a", 1<<16)} {
		if o, ok := Order(some(), id); ok || !reflect.DeepEqual(o, api.Order{}) {
			t.Errorf("order %.20q: %v %v", id, o, ok)
		}
	}
	for _, id := range []int64{math.MinInt64, -2, -1, 0, 1, 4, 6, 7, 12, 13, 1<<32 + 2, math.MaxInt64} {
		if b, ok := Batch(some(), id); ok || !reflect.DeepEqual(b, api.Batch{}) {
			t.Errorf("batch %d: %v %v", id, b, ok)
		}
	}
	if o, ok := Order(api.State{}, ""); ok || !reflect.DeepEqual(o, api.Order{}) {
		t.Errorf("an order of a state of nothing: %v %v", o, ok)
	}
	if b, ok := Batch(api.State{}, 0); ok || !reflect.DeepEqual(b, api.Batch{}) {
		t.Errorf("a batch of a state of nothing: %v %v", b, ok)
	}
}

// TestOrderAndBatchOfMany: each is found, wherever it stands.
func TestOrderAndBatchOfMany(t *testing.T) {
	for _, n := range []int{1, 2, 3, 4, 5, 31, 32, 33, 399, 400} {
		s := many(n, api.Packed)
		for i := range n {
			o, ok := Order(s, name(i))
			b, there := Batch(s, int64(i+1))
			if !ok || o.Id != name(i) || o.Batch != int64(i+1) || !there || b.Id != int64(i+1) || !slices.Equal(b.Members, []string{name(i)}) {
				t.Errorf("%d of %d: %v %v, %v %v", i, n, o, ok, b, there)
			}
		}
		for _, id := range []string{"o", name(n), name(n) + "0", name(0) + "0"} {
			if o, ok := Order(s, id); ok {
				t.Errorf("%q of %d: %v", id, n, o)
			}
		}
		if b, ok := Batch(s, int64(n+1)); ok {
			t.Errorf("the next one of %d: %v", n, b)
		}
	}
}

// TestOrderAndBatchAreOwn: what is told shares no list with the state, nor with what was told before.
func TestOrderAndBatchAreOwn(t *testing.T) {
	for i, x := range []api.State{some(), wrongPlaces()[7], together(64, api.Waiting)} {
		s, asItWas := roomy(x)
		for _, id := range ids(x) {
			want, _ := orderByGoing(x, id)
			first, _ := Order(s, id)
			second, _ := Order(s, id)
			if sharesMemory(first, second, s) {
				t.Errorf("state %d, order %q: memory is shared", i, id)
			}
			clear(first.Lines[:cap(first.Lines)])
			if !asItWas() || !same(second, want) {
				t.Errorf("state %d, order %q: a change is seen", i, id)
			}
		}
		for _, b := range x.Batches {
			first, _ := Batch(s, b.Id)
			second, _ := Batch(s, b.Id)
			if sharesMemory(first, second, s) {
				t.Errorf("state %d, batch %d: memory is shared", i, b.Id)
			}
			clear(first.Members[:cap(first.Members)])
			if !asItWas() || !same(second, b) {
				t.Errorf("state %d, batch %d: a change is seen", i, b.Id)
			}
		}
		o, _ := Order(s, ids(x)[0])
		b, _ := Batch(s, x.Batches[0].Id)
		wantO, _ := orderByGoing(x, ids(x)[0])
		wantB := x.Batches[0]
		scribble(s)
		if !same(o, wantO) || !same(b, wantB) {
			t.Errorf("state %d: what was handed in is kept", i)
		}
	}
}

func TestWeight(t *testing.T) {
	for _, c := range []struct {
		ids  string
		want int64
	}{
		{"", 0}, {"a-1", 11}, {"a-2", 21}, {"a-1 a-2", 32}, {"a-2 a-1", 32}, {"β", 191}, {"α", 181}, {"i", 131},
		{"zz", 0}, {"zz zy", 0}, {"zz a-1", 11}, {"a-1 zz", 11}, {"a-1 zz a-2 a", 32}, {"A-1", 0},
		{"a-1 a-1", 22}, {"a-1 a-2 a-1", 43}, {"a-1 a-1 a-1 a-1", 44}, {"zz zz", 0}, {"β e e β e", 655},
		{"a-1 a-2 b b0 c c- d d9 e f g h i j k l m α β", 1919},
	} {
		if got := Weight(some(), strings.Fields(c.ids)); got != c.want {
			t.Errorf("%q: %d, want %d", c.ids, got, c.want)
		}
	}
	for _, none := range [][]string{nil, {}, {""}, {"", ""}, {" "}} {
		if got := Weight(some(), none); got != 0 {
			t.Errorf("%q: %d", none, got)
		}
	}
	if got := Weight(api.State{}, []string{"a", ""}); got != 0 {
		t.Errorf("of a state of nothing: %d", got)
	}
}

// TestWeightOfEach: by the chapter's words, wherever an order stands, and whether or not its lines can be.
func TestWeightOfEach(t *testing.T) {
	states := append(wrongPlaces(), some(), many(400, api.Sending))
	for i := range some().Orders {
		states = append(states,
			with(func(s *api.State) { s.Orders[i].Lines = nil }),
			with(func(s *api.State) { s.Orders[i].Lines[0].Qty = -5 }),
			with(func(s *api.State) { s.Orders[i].Lines[1].Qty = 1001 }),
			with(func(s *api.State) { s.Orders[i].Lines[0].Weight = math.MaxInt64 }),
			with(func(s *api.State) { s.Orders[i].Lines = []api.Line{{Sku: "b", Qty: 1000, Weight: 100000}} }),
			with(func(s *api.State) { s.Orders[i].Lines[0].Weight = 0 }),
			with(func(s *api.State) { s.Orders[i].Saga.Phase = 99 }),
		)
	}
	for i, s := range states {
		var sum int64
		for _, id := range ids(s) {
			o, _ := orderByGoing(s, id)
			sum += weightByWords(o.Lines)
			if got := Weight(s, []string{id}); got != weightByWords(o.Lines) {
				t.Errorf("state %d, order %q: %d", i, id, got)
			}
		}
		if got := Weight(s, ids(s)); got != sum {
			t.Errorf("state %d: %d, want %d", i, got, sum)
		}
	}
}

// TestWeightOfMuch: what is heavy, or asked for often, has no bound.
func TestWeightOfMuch(t *testing.T) {
	s := some()
	s.Orders[0].Lines = nil
	for i := range 8 {
		s.Orders[0].Lines = append(s.Orders[0].Lines, api.Line{Sku: name(i), Qty: 1000, Weight: 100000})
	}
	for _, n := range []int{1, 2, 3, 1249, 1250, 1251, 5000, 1 << 17} {
		if got := Weight(s, slices.Repeat([]string{"a-1"}, n)); got != 800000000*int64(n) {
			t.Errorf("%d times: %d", n, got)
		}
	}
	ids := []string{"a-1", "β", "zz", "spare", "a-2"}
	was := slices.Clone(ids)
	if got := Weight(s, ids[:3]); got != 800000191 || !slices.Equal(ids, was) {
		t.Errorf("%d, %v", got, ids)
	}
}

func TestHeld(t *testing.T) {
	for _, c := range []struct {
		kind int
		g    api.Group
		want []int64
	}{
		{api.Wave, near(), []int64{2, 10}}, {api.Wave, far(), []int64{9}}, {api.Manifest, near(), []int64{5}}, {api.Manifest, far(), nil},
		{0, near(), nil}, {3, near(), nil}, {-1, near(), nil}, {1<<32 + 1, near(), nil}, {math.MaxInt, near(), nil}, {math.MinInt, far(), nil},
		{api.Wave, api.Group{}, nil}, {api.Manifest, api.Group{}, nil},
		{api.Wave, api.Group{Carrier: "dhl", Zone: "n", Service: "fast"}, nil}, {api.Wave, api.Group{Carrier: "ups", Zone: "w", Service: "fast"}, nil}, {api.Wave, api.Group{Carrier: "ups", Zone: "n", Service: "slow"}, nil},
		{api.Wave, api.Group{Carrier: "n", Zone: "ups", Service: "fast"}, nil}, {api.Wave, api.Group{Carrier: "UPS", Zone: "n", Service: "fast"}, nil},
	} {
		if got := Held(some(), c.kind, c.g); !slices.Equal(got, c.want) {
			t.Errorf("kind %d of %v: %v, want %v", c.kind, c.g, got, c.want)
		}
	}
	if got := Held(api.State{}, api.Wave, near()); len(got) != 0 {
		t.Errorf("of a state of nothing: %v", got)
	}
}

// heldByGoing tells the ids of those that are open, of that kind and group, put in order, each once.
func heldByGoing(s api.State, kind int, g api.Group) []int64 {
	at := map[int64]bool{}
	for _, b := range s.Batches {
		if b.Kind == kind && b.Phase == 1 && fmt.Sprintf("%q", b.Group) == fmt.Sprintf("%q", g) {
			at[b.Id] = true
		}
	}
	var l []int64
	for id := range at {
		l = append(l, id)
	}
	slices.Sort(l)
	return l
}

func TestHeldOfEach(t *testing.T) {
	states := append(allStates(), wrongPlaces()...)
	for i := range some().Batches {
		for kind := -1; kind <= 4; kind++ {
			for phase := -1; phase <= 4; phase++ {
				states = append(states, with(func(s *api.State) { s.Batches[i].Kind, s.Batches[i].Phase = kind, phase }))
			}
		}
	}
	states = append(states, many(400, api.Waiting), many(400, api.Picking), many(400, api.Packed), many(400, api.Sending), together(64, api.Packed))
	for i, x := range states {
		s, asItWas := roomy(x)
		all := []any{s}
		for kind := -1; kind <= 4; kind++ {
			for _, g := range []api.Group{near(), far(), {}} {
				got := Held(s, kind, g)
				all = append(all, got, Held(s, kind, g))
				if !slices.Equal(got, heldByGoing(s, kind, g)) {
					t.Errorf("state %d, kind %d of %v: %v, want %v", i, kind, g, got, heldByGoing(s, kind, g))
				}
			}
		}
		if sharesMemory(all...) || !asItWas() {
			t.Errorf("state %d: memory is shared or changed", i)
		}
	}
}

// TestHeldOfWrongPlaces: they rise, wherever their batches stand.
func TestHeldOfWrongPlaces(t *testing.T) {
	for i, s := range wrongPlaces()[:20] {
		if got := Held(s, api.Wave, near()); !slices.Equal(got, []int64{2, 10}) {
			t.Errorf("state %d: %v", i, got)
		}
	}
	twice := with(func(s *api.State) { s.Batches = append(s.Batches, s.Batches...) })
	if got := Held(twice, api.Wave, near()); !slices.Equal(got, []int64{2, 10}) {
		t.Errorf("of batches that stand twice: %v", got)
	}
}
