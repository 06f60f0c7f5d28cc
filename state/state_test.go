package state

import (
	"fmt"
	"math"
	"reflect"
	"slices"
	"testing"

	"packhorse/api"
)

var wrongCounts = []int{math.MinInt, -1 << 32, -64, -1, 0, 65, 66, 128, 1<<8 + 1, 1<<16 + 1, 1<<32 + 1, math.MaxInt}

var wrongLimits = []int{math.MinInt, -1 << 32, -100, -2, -1, 0, 101, 102, 200, 1<<8 + 1, 1<<16 + 1, 1<<32 + 1, math.MaxInt}

// wrongTallies are neither Right nor, as 0 stands among wrongNumbers alone, above nought.
var wrongTallies = []int64{math.MinInt64, -1000000000000, -1 << 32, -2, -1, 1000000000001, 1000000000002, 1 << 40, 1 << 62, math.MaxInt64}

var wrongNumbers = append([]int64{0}, wrongTallies...)

var wrongTicks = []int64{math.MinInt64, -1 << 40, -1 << 32, -2, -1, 1<<40 + 1, 1<<40 + 2, 1 << 41, 1 << 62, math.MaxInt64}

// wrongDoors are no doors in any order.
var wrongDoors = [][]int{nil, {}, {-1}, {96}, {97}, {1 << 8}, {1<<32 + 1}, {math.MinInt}, {math.MaxInt}, {-1, 0}, {0, 96}, {32, 64, 96}, {5, -5, 6}, {5, 100, 6}, append(upTo(96), 96), append([]int{-1}, upTo(96)...)}

// unsortedDoors are doors when they are put in order.
var unsortedDoors = [][]int{{0, 0}, {95, 95}, {1, 0}, {95, 0}, {32, 32}, {64, 32}, {1, 2, 2}, {1, 1, 2}, {2, 1, 3}, {1, 3, 2}, {64, 32, 64}, append(upTo(96), 95), append(upTo(96), 0), append(upTo(96), upTo(96)...)}

func upTo(n int) []int {
	var l []int
	for i := range n {
		l = append(l, i)
	}
	return l
}

func near() api.Group { return api.Group{Carrier: "ups", Zone: "n", Service: "fast"} }

func far() api.Group { return api.Group{Carrier: "ups", Zone: "s", Service: "fast"} }

// made is an order with some lines, which weigh 10 times qty and one more.
func made(id string, g api.Group, phase int, batch, qty int64) api.Order {
	return api.Order{
		Id:    id,
		Lines: []api.Line{{Sku: "x", Qty: qty, Weight: 10}, {Sku: "y", Qty: 1, Weight: 1}},
		Group: g,
		Total: 1999,
		Saga:  api.Saga{Phase: phase},
		Batch: batch,
	}
}

// some is a right state with orders of each phase and batches of each kind and phase, in which no two lists share memory.
func some() api.State {
	return api.State{
		Waves:     api.Caps{Count: 3, Weight: 500},
		Manifests: api.Caps{Count: 2, Weight: 300},
		Limit:     4,
		Doors:     []int{32, 64},
		Now:       70,
		NextBatch: 12,
		NextKey:   30,
		Orders: []api.Order{
			made("a-1", near(), api.Waiting, 2, 1),
			made("a-2", near(), api.Waiting, 2, 2),
			made("b", near(), api.Picking, 3, 3),
			made("b0", near(), api.Picking, 3, 4),
			made("c", near(), api.Packed, 5, 5),
			made("c-", near(), api.Packed, 5, 6),
			made("d", near(), api.Sending, 8, 7),
			made("d9", near(), api.Sending, 8, 8),
			made("e", far(), api.Waiting, 9, 9),
			made("f", near(), api.Reserving, 0, 10),
			made("g", far(), api.Authorising, 0, 11),
			made("h", near(), api.Capturing, 0, 12),
			made("i", near(), api.Shipped, 0, 13),
			made("j", near(), api.Voiding, 0, 14),
			made("k", far(), api.Releasing, 0, 15),
			made("l", near(), api.Compensated, 0, 16),
			made("m", near(), api.Stuck, 0, 17),
			made("α", far(), api.Sending, 11, 18),
			made("β", near(), api.Waiting, 10, 19),
		},
		Batches: []api.Batch{
			{Id: 2, Weight: 32, Born: 40, Kind: api.Wave, Phase: api.Open, Group: near(), Members: []string{"a-2", "a-1"}},
			{Id: 3, Weight: 72, Born: 41, Kind: api.Wave, Phase: api.Out, Group: near(), Members: []string{"b", "b0"}},
			{Id: 5, Weight: 112, Born: 42, Kind: api.Manifest, Phase: api.Open, Group: near(), Members: []string{"c", "c-"}},
			{Id: 8, Weight: 152, Born: 43, Kind: api.Manifest, Phase: api.Out, Group: near(), Members: []string{"d9", "d"}},
			{Id: 9, Weight: 91, Born: 44, Kind: api.Wave, Phase: api.Open, Group: far(), Members: []string{"e"}},
			{Id: 10, Weight: 191, Born: 45, Kind: api.Wave, Phase: api.Open, Group: near(), Members: []string{"β"}},
			{Id: 11, Weight: 181, Born: 46, Kind: api.Manifest, Phase: api.Out, Group: far(), Members: []string{"α"}},
		},
		Effects: []api.Effect{
			{Key: 3, Kind: api.Pick, Batch: 3, Due: 71, Tries: 1},
			{Key: 4, Kind: api.Reserve, Order: "f"},
			{Key: 7, Kind: api.Transmit, Batch: 8, Due: 99, Tries: 5},
			{Key: 9, Kind: api.Authorise, Order: "g"},
			{Key: 10, Kind: api.Capture, Order: "h"},
			{Key: 15, Kind: api.Void, Order: "j"},
			{Key: 16, Kind: api.Release, Order: "k"},
			{Key: 29, Kind: api.Transmit, Batch: 11},
		},
	}
}

// with is some state in which something is changed.
func with(change func(*api.State)) api.State {
	s := some()
	change(&s)
	return s
}

// orderAt and batchAt tell where the one of an id stands in some state, so that a change can name it.
func orderAt(id string) int {
	return slices.IndexFunc(some().Orders, func(o api.Order) bool { return o.Id == id })
}

func batchAt(id int64) int {
	return slices.IndexFunc(some().Batches, func(b api.Batch) bool { return b.Id == id })
}

// name is a label of its own for each i below 10000, rising with it.
func name(i int) string { return fmt.Sprintf("o%04d", i) }

// many is a state of n orders, each in that phase, by itself or alone in its batch; it is right, if n is at most 400.
func many(n, phase int) api.State {
	s, _ := New(api.Caps{Count: 64, Weight: 1}, api.Caps{Count: 1, Weight: 1000000000000}, 1, 0)
	for i := range n {
		o := made(name(i), near(), phase, 0, 1)
		if api.Waiting <= phase && phase <= api.Sending {
			o.Batch = s.NextBatch
			kind, way := 1+(phase-api.Waiting)/2, 1+(phase-api.Waiting)%2
			s.Batches = append(s.Batches, api.Batch{Id: o.Batch, Weight: 11, Kind: kind, Phase: way, Group: near(), Members: []string{o.Id}})
			s.NextBatch++
		}
		e := api.Effect{Key: s.NextKey, Kind: asksByWords(phase), Order: o.Id}
		switch phase {
		case api.Picking:
			e = api.Effect{Key: s.NextKey, Kind: api.Pick, Batch: o.Batch}
		case api.Sending:
			e = api.Effect{Key: s.NextKey, Kind: api.Transmit, Batch: o.Batch}
		}
		if e.Kind != 0 {
			s.Effects = append(s.Effects, e)
			s.NextKey++
		}
		s.Orders = append(s.Orders, o)
	}
	return s
}

// together is a state of n orders in that phase that are all in one batch; it is right, if n is from 1 to 64.
func together(n, phase int) api.State {
	s := many(n, phase)
	b := s.Batches[0]
	b.Members, b.Weight = nil, 0
	for i := range s.Orders {
		s.Orders[i].Batch = b.Id
		b.Members = append(b.Members, s.Orders[i].Id)
		b.Weight += 11
	}
	s.Batches = []api.Batch{b}
	s.Effects = s.Effects[:min(1, len(s.Effects))]
	return s
}

func TestNew(t *testing.T) {
	waves, manifests := api.Caps{Count: 3, Weight: 500}, api.Caps{Count: 2, Weight: 300}
	s, errno := New(waves, manifests, 4, 64, 32, 64)
	want := api.State{Waves: waves, Manifests: manifests, Limit: 4, Doors: []int{32, 64}, NextBatch: 1, NextKey: 1}
	if errno != api.OK || !reflect.DeepEqual(s, want) {
		t.Errorf("%v %v, want %v", s, errno, want)
	}
	if !Right(s) {
		t.Error("what a desk begins with isn't right")
	}
}

// beginsWith holds New against a state with these settings and nothing else.
func beginsWith(t *testing.T, waves, manifests api.Caps, limit int, doors, rising []int) {
	t.Helper()
	s, errno := New(waves, manifests, limit, doors...)
	if errno != api.OK || !slices.Equal(s.Doors, rising) || !Right(s) {
		t.Errorf("New of %v, %v, %d, %v: %v %v, Right %v", waves, manifests, limit, doors, s, errno, Right(s))
	}
	s.Doors = nil
	if !reflect.DeepEqual(s, api.State{Waves: waves, Manifests: manifests, Limit: limit, NextBatch: 1, NextKey: 1}) {
		t.Errorf("New of %v, %v, %d, %v: %v", waves, manifests, limit, doors, s)
	}
}

func beginsNot(t *testing.T, waves, manifests api.Caps, limit int, doors []int) {
	t.Helper()
	if s, errno := New(waves, manifests, limit, doors...); errno != api.ErrState || !reflect.DeepEqual(s, api.State{}) {
		t.Errorf("New of %v, %v, %d, %v: %v %v", waves, manifests, limit, doors, s, errno)
	}
}

func TestNewOfCaps(t *testing.T) {
	a, doors := api.Caps{Count: 7, Weight: 70}, []int{5}
	for count := 1; count <= 64; count++ {
		for _, weight := range []int64{1, 2, 70, 1 << 32, 999999999999, 1000000000000} {
			c := api.Caps{Count: count, Weight: weight}
			beginsWith(t, a, c, 1, doors, doors)
			beginsWith(t, c, a, 1, doors, doors)
			beginsWith(t, c, c, 1, doors, doors)
		}
	}
	var wrong []api.Caps
	for _, count := range wrongCounts {
		wrong = append(wrong, api.Caps{Count: count, Weight: 70})
	}
	for _, weight := range wrongNumbers {
		wrong = append(wrong, api.Caps{Count: 7, Weight: weight})
	}
	for _, c := range append(wrong, api.Caps{}) {
		beginsNot(t, a, c, 1, doors)
		beginsNot(t, c, a, 1, doors)
		beginsNot(t, c, c, 1, doors)
		beginsNot(t, c, a, 0, nil)
	}
}

func TestNewOfLimits(t *testing.T) {
	a, doors := api.Caps{Count: 7, Weight: 70}, []int{5}
	for limit := -300; limit <= 600; limit++ {
		if 1 <= limit && limit <= 100 {
			beginsWith(t, a, a, limit, doors, doors)
		} else {
			beginsNot(t, a, a, limit, doors)
		}
	}
	for _, limit := range wrongLimits {
		beginsNot(t, a, a, limit, doors)
	}
}

func TestNewOfDoors(t *testing.T) {
	a := api.Caps{Count: 7, Weight: 70}
	for n := range 96 {
		beginsWith(t, a, a, 100, []int{n}, []int{n})
	}
	for n := 1; n <= 96; n++ {
		beginsWith(t, a, a, 1, upTo(n), upTo(n))
	}
	for _, doors := range unsortedDoors {
		rising := slices.Clone(doors)
		slices.Sort(rising)
		beginsWith(t, a, a, 1, doors, slices.Compact(rising))
	}
	for _, doors := range wrongDoors {
		beginsNot(t, a, a, 1, doors)
	}
	if s, errno := New(a, a, 1); errno != api.ErrState || !reflect.DeepEqual(s, api.State{}) {
		t.Errorf("without doors: %v %v", s, errno)
	}
}

// TestNewKeepsNoDoors: the list of doors stays, spare room too, and is not kept; no two answers share memory.
func TestNewKeepsNoDoors(t *testing.T) {
	a := api.Caps{Count: 7, Weight: 70}
	for _, doors := range append([][]int{{3}, {3, 9}, upTo(96)}, unsortedDoors...) {
		room := append(slices.Clone(doors), 77, -1, 5, 96)
		was := slices.Clone(room)
		given := room[:len(doors)]
		s, _ := New(a, a, 1, given...)
		other, _ := New(a, a, 1, given...)
		want := slices.Clone(s.Doors)
		if !slices.Equal(room, was) || sharesMemory(s, other, given) {
			t.Errorf("doors %v: changed or shared", doors)
		}
		for i := range room {
			room[i] = 1000
		}
		if !slices.Equal(s.Doors, want) || !slices.Equal(other.Doors, want) {
			t.Errorf("doors %v: kept", doors)
		}
	}
}

// span is where a list lies in memory, spare room too.
type span struct{ from, to uintptr }

// spans tells where all lists of v lie, and those within them, also in their spare room; texts may be shared.
func spans(v reflect.Value) []span {
	var l []span
	switch v.Kind() {
	case reflect.Struct:
		for i := range v.NumField() {
			l = append(l, spans(v.Field(i))...)
		}
	case reflect.Slice:
		all := v.Slice(0, v.Cap())
		if n := uintptr(all.Len()) * v.Type().Elem().Size(); n > 0 {
			l = append(l, span{v.Pointer(), v.Pointer() + n})
		}
		for i := range all.Len() {
			l = append(l, spans(all.Index(i))...)
		}
	}
	return l
}

// sharesMemory tells whether any two lists, of one value or of two, lie upon each other.
func sharesMemory(values ...any) bool {
	var all []span
	for _, v := range values {
		all = append(all, spans(reflect.ValueOf(v))...)
	}
	slices.SortFunc(all, func(a, b span) int {
		if a.from < b.from {
			return -1
		}
		return 1
	})
	for i := 1; i < len(all); i++ {
		if all[i].from < all[i-1].to {
			return true
		}
	}
	return false
}

func TestSharesMemory(t *testing.T) {
	l, twice := []int{1, 2, 3}, some()
	twice.Orders[1].Lines = twice.Orders[0].Lines
	spare := some()
	spare.Doors = l[:1]
	for what, values := range map[string][]any{"lists": {l, l}, "a list and its end": {l, l[2:]}, "spare room": {l[:1], l[1:]}, "a state": {twice}, "a state and a list": {spare, l[2:]}} {
		if !sharesMemory(values...) {
			t.Errorf("%s: not seen", what)
		}
	}
	if sharesMemory(some(), some(), l[:2:2], l[2:]) {
		t.Error("seen where nothing is shared")
	}
}

// roomy lays all lists of a state, and those within, into memory with room behind them that is written full, and tells whether all of that is still as it was.
func roomy(s api.State) (given api.State, asItWas func() bool) {
	s = deep(s)
	s.Doors = withRoom(s.Doors, 7, -1)
	s.Effects = withRoom(s.Effects, api.Effect{Key: 1, Kind: 1, Order: "spare"}, api.Effect{})
	for i := range s.Orders {
		s.Orders[i].Lines = withRoom(s.Orders[i].Lines, api.Line{Sku: "spare", Qty: 9, Weight: 9}, api.Line{})
	}
	s.Orders = withRoom(s.Orders, made("spare", near(), api.Waiting, 1, 1), api.Order{})
	for i := range s.Batches {
		s.Batches[i].Members = withRoom(s.Batches[i].Members, "spare", "")
	}
	s.Batches = withRoom(s.Batches, api.Batch{Id: 3, Kind: 1, Phase: 1, Group: near(), Members: []string{"spare"}}, api.Batch{})
	was := deep(full(s))
	return s, func() bool { return reflect.DeepEqual(full(s), was) }
}

func withRoom[T any](l []T, behind ...T) []T {
	return slices.Concat(l, behind)[:len(l)]
}

// full is the state with all its lists as long as their memory.
func full(s api.State) api.State {
	s.Doors = s.Doors[:cap(s.Doors)]
	s.Effects = s.Effects[:cap(s.Effects)]
	s.Orders = slices.Clone(s.Orders[:cap(s.Orders)])
	for i, o := range s.Orders {
		s.Orders[i].Lines = o.Lines[:cap(o.Lines)]
	}
	s.Batches = slices.Clone(s.Batches[:cap(s.Batches)])
	for i, b := range s.Batches {
		s.Batches[i].Members = b.Members[:cap(b.Members)]
	}
	return s
}

// deep is the same state in memory of its own, told without the package's own calls.
func deep(s api.State) api.State {
	s.Doors = slices.Clone(s.Doors)
	s.Effects = slices.Clone(s.Effects)
	s.Orders = slices.Clone(s.Orders)
	for i, o := range s.Orders {
		s.Orders[i].Lines = slices.Clone(o.Lines)
	}
	s.Batches = slices.Clone(s.Batches)
	for i, b := range s.Batches {
		s.Batches[i].Members = slices.Clone(b.Members)
	}
	return s
}

// scribble writes over all lists of a state, spare room and lists within too.
func scribble(s api.State) {
	for i := range s.Doors[:cap(s.Doors)] {
		s.Doors[:cap(s.Doors)][i] = 55
	}
	for i := range s.Effects[:cap(s.Effects)] {
		s.Effects[:cap(s.Effects)][i] = api.Effect{Key: 55, Order: "scribble"}
	}
	for i, o := range s.Orders[:cap(s.Orders)] {
		for j := range o.Lines[:cap(o.Lines)] {
			o.Lines[:cap(o.Lines)][j] = api.Line{Sku: "scribble"}
		}
		s.Orders[:cap(s.Orders)][i] = api.Order{Id: "scribble"}
	}
	for i, b := range s.Batches[:cap(s.Batches)] {
		for j := range b.Members[:cap(b.Members)] {
			b.Members[:cap(b.Members)][j] = "scribble"
		}
		s.Batches[:cap(s.Batches)][i] = api.Batch{Id: 55}
	}
}

// allStates are right ones and others, each made anew.
func allStates() []api.State {
	states := []api.State{some(), {}, many(0, 1), many(400, api.Sending), many(401, api.Reserving), together(64, api.Picking)}
	for _, c := range append(stillRight(), notRight()...) {
		states = append(states, with(c.change))
	}
	return states
}

// TestStatesStay: what is asked of a state leaves all its lists as they were, spare room too, be it right or not.
func TestStatesStay(t *testing.T) {
	for i, x := range allStates() {
		s, asItWas := roomy(x)
		other, otherAsItWas := roomy(x)
		ids := []string{"a-1", "spare", "l", "", "zz", "l"}
		askedFor := slices.Clone(ids)
		Right(s)
		Same(s, other)
		Copy(s)
		for _, o := range s.Orders {
			Order(s, o.Id)
		}
		for _, b := range s.Batches {
			Batch(s, b.Id)
			Weight(s, b.Members)
			Held(s, b.Kind, b.Group)
		}
		Weight(s, ids[:4])
		if !asItWas() || !otherAsItWas() || !slices.Equal(ids, askedFor) {
			t.Errorf("state %d: changed", i)
		}
	}
}

// TestAnswersStay: P1 and P2 for this layer: nothing makes a call panic, and a second asking is answered like the first, whatever was asked between.
func TestAnswersStay(t *testing.T) {
	states := allStates()
	tell := func(i int) string {
		s, other := states[i], states[(i+1)%len(states)]
		o, isOrder := Order(s, "α")
		b, isBatch := Batch(s, 10)
		begun, errno := New(s.Waves, other.Manifests, other.Limit, s.Doors...)
		return fmt.Sprint(Right(s), Same(s, other), Same(s, Copy(s)), Copy(s), o, isOrder, b, isBatch, Weight(s, []string{"a-1", "β", "zz"}), Held(s, api.Wave, near()), begun, errno)
	}
	var first []string
	for i := range states {
		first = append(first, tell(i))
	}
	for i := len(states) - 1; i >= 0; i-- {
		if got := tell(i); got != first[i] {
			t.Errorf("state %d: %.300s, at first %.300s", i, got, first[i])
		}
	}
}
