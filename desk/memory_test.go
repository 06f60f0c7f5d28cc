package desk

import (
	"fmt"
	"math"
	"reflect"
	"slices"
	"testing"

	"packhorse/api"
	"packhorse/state"
)

// span is where a list lies in memory, spare room too.
type span struct{ from, to uintptr }

// spans tells where all lists of v lie, and those within them, also in their spare room; texts may be shared.
func spans(v reflect.Value) []span {
	var l []span
	switch v.Kind() {
	case reflect.Struct:
		for i := range v.NumField() {
			l = append(l, spans(v.Field(i))...)
		}
	case reflect.Slice:
		all := v.Slice(0, v.Cap())
		if n := uintptr(all.Len()) * v.Type().Elem().Size(); n > 0 {
			l = append(l, span{v.Pointer(), v.Pointer() + n})
		}
		if kind := v.Type().Elem().Kind(); kind != reflect.Struct && kind != reflect.Slice {
			break
		}
		for i := range all.Len() {
			l = append(l, spans(all.Index(i))...)
		}
	}
	return l
}

// sharesMemory tells whether any two lists, of one value or of two, lie upon each other.
func sharesMemory(values ...any) bool {
	var all []span
	for _, v := range values {
		all = append(all, spans(reflect.ValueOf(v))...)
	}
	slices.SortFunc(all, func(a, b span) int {
		if a.from < b.from {
			return -1
		}
		return 1
	})
	for i := 1; i < len(all); i++ {
		if all[i].from < all[i-1].to {
			return true
		}
	}
	return false
}

func TestSharesMemory(t *testing.T) {
	l, twice, spare := []int{1, 2, 3}, some(), some()
	twice.Orders[1].Lines = twice.Orders[0].Lines
	spare.Doors = l[:1]
	for what, values := range map[string][]any{"lists": {l, l}, "a list and its end": {l, l[2:]}, "spare room": {l[:1], l[1:]}, "a state": {twice}, "a state and a list": {spare, l[2:]}} {
		if !sharesMemory(values...) {
			t.Errorf("%s: not seen", what)
		}
	}
	if sharesMemory(some(), some(), submit("a", 1), submit("a", 1), l[:2:2], l[2:]) {
		t.Error("seen where nothing is shared")
	}
}

// roomy tells l with spare room, in which something stands that must stay.
func roomy[T any](l []T, mark T) []T {
	n := len(l)
	return append(slices.Clone(l), mark, mark, mark)[:n]
}

// marked is some state of which each list has spare room.
func marked() (api.State, api.Effect) {
	s, mark := some(), api.Effect{Key: 77, Order: "mark"}
	s.Doors = roomy(s.Doors, 77)
	for i := range s.Orders {
		s.Orders[i].Lines = roomy(s.Orders[i].Lines, api.Line{Sku: "mark", Qty: 77})
	}
	s.Orders = roomy(s.Orders, api.Order{Id: "mark", Batch: 77})
	for i := range s.Batches {
		s.Batches[i].Members = roomy(s.Batches[i].Members, "mark")
	}
	s.Batches = roomy(s.Batches, api.Batch{Id: 77, Kind: 77})
	s.Effects = roomy(s.Effects, mark)
	return s, mark
}

// whole tells all that lies in the lists of s, in their spare room too.
func whole(s api.State) string {
	s.Doors = s.Doors[:cap(s.Doors)]
	s.Orders = slices.Clone(s.Orders[:cap(s.Orders)])
	for i, o := range s.Orders {
		s.Orders[i].Lines = o.Lines[:cap(o.Lines)]
	}
	s.Batches = slices.Clone(s.Batches[:cap(s.Batches)])
	for i, b := range s.Batches {
		s.Batches[i].Members = b.Members[:cap(b.Members)]
	}
	s.Effects = s.Effects[:cap(s.Effects)]
	return fmt.Sprint(s)
}

// commandsOfSome are commands at which something becomes of some state, and such as are answered with an error.
func commandsOfSome() []api.Command {
	l := []api.Command{tick(1), tick(96), {Kind: api.DoClose}, {Kind: api.DoSend}, submit("new", 5), submit("0", 5), reply(999, true)}
	s := some()
	for _, o := range s.Orders {
		l = append(l, cancel(o.Id), ask(o.Id), amend(o.Id, near()), amend(o.Id, far()), submit(o.Id, 1))
	}
	for _, e := range s.Effects {
		l = append(l, reply(e.Key, true), reply(e.Key, false))
	}
	return l
}

// TestHandedIn: neither what is handed in is changed, spare room too, nor anything of it kept, nor lies what is answered twice in one place.
func TestHandedIn(t *testing.T) {
	for _, c := range commandsOfSome() {
		s, _ := marked()
		c.Lines = roomy(c.Lines, api.Line{Sku: "mark", Qty: 77})
		before, lines := whole(s), fmt.Sprint(c.Lines[:cap(c.Lines)])
		next, a := Do(s, c)
		if whole(s) != before || fmt.Sprint(c.Lines[:cap(c.Lines)]) != lines {
			t.Errorf("%v changed what was handed in", c)
		}
		if a.Errno == api.OK && sharesMemory(s, c, next, a) || sharesMemory(s, c, a) {
			t.Errorf("%v: memory is shared", c)
		}
		Idle(s)
		if whole(s) != before {
			t.Error("Idle changed what was handed in")
		}
	}
}

// TestWrittenOver: what was handed in may be written over behind the call.
func TestWrittenOver(t *testing.T) {
	for _, c := range commandsOfSome() {
		s := some()
		next, a := Do(s, c)
		if a.Errno != api.OK {
			continue
		}
		told, answered := state.Copy(next), fmt.Sprint(a)
		for i := range c.Lines {
			c.Lines[i] = api.Line{}
		}
		clear(s.Doors)
		clear(s.Effects)
		for _, o := range s.Orders {
			clear(o.Lines)
		}
		for _, b := range s.Batches {
			clear(b.Members)
		}
		clear(s.Orders)
		clear(s.Batches)
		if !state.Same(next, told) || fmt.Sprint(a) != answered {
			t.Errorf("%v: seen in what was answered", c)
		}
	}
}

// TestWrittenOverBehind: what was answered may be written over, and nothing of it is seen in the state, nor the other way about.
func TestWrittenOverBehind(t *testing.T) {
	next, a := Do(some(), api.Command{Kind: api.DoSend})
	if len(a.Effects) == 0 {
		t.Fatal("nothing was sent: the test is wrong")
	}
	told := state.Copy(next)
	clear(a.Effects)
	if !state.Same(next, told) {
		t.Error("what was sent is the state's own")
	}
}

// wrongStates are none that is right; of such nothing but an end is promised.
func wrongStates() map[string]api.State {
	long := some()
	for i := range 200000 {
		long.Orders = append(long.Orders, made(name(i), near(), api.Waiting, int64(12+i), 1))
		long.Batches = append(long.Batches, api.Batch{Id: int64(12 + i), Weight: 11, Kind: api.Wave, Phase: api.Open, Group: near(), Members: []string{name(i)}})
		long.Effects = append(long.Effects, api.Effect{Key: int64(30 + i), Kind: api.Void, Order: name(i)})
	}
	wide := some()
	wide.Batches[1].Members = slices.Repeat([]string{"b", "zz", "a-1", ""}, 100000)
	return map[string]api.State{
		"none":       {},
		"no orders":  with(func(s *api.State) { s.Orders = nil }),
		"no batches": with(func(s *api.State) { s.Batches = nil }),
		"no effects": with(func(s *api.State) { s.Effects = nil }),
		"no doors":   with(func(s *api.State) { s.Doors = nil }),
		"no caps":    with(func(s *api.State) { s.Waves, s.Manifests = api.Caps{}, api.Caps{} }),
		"caps below nought": with(func(s *api.State) {
			s.Waves, s.Manifests = api.Caps{Count: -1, Weight: -1}, api.Caps{Count: -1, Weight: -1}
		}),
		"no limit":           with(func(s *api.State) { s.Limit = math.MinInt }),
		"least numbers":      with(func(s *api.State) { s.Now, s.NextBatch, s.NextKey = math.MinInt64, math.MinInt64, math.MinInt64 }),
		"greatest tick":      with(func(s *api.State) { s.Now = math.MaxInt64 }),
		"greatest numbers":   with(func(s *api.State) { s.Now, s.NextBatch, s.NextKey = math.MaxInt64, math.MaxInt64, math.MaxInt64 }),
		"numbers of nought":  with(func(s *api.State) { s.Now, s.NextBatch, s.NextKey = 0, 0, 0 }),
		"turned about":       with(func(s *api.State) { slices.Reverse(s.Orders); slices.Reverse(s.Batches); slices.Reverse(s.Effects) }),
		"all out":            with(func(s *api.State) { eachBatch(s, func(b *api.Batch) { b.Phase = api.Out }) }),
		"all open":           with(func(s *api.State) { eachBatch(s, func(b *api.Batch) { b.Phase = api.Open }) }),
		"all of one id":      with(func(s *api.State) { eachBatch(s, func(b *api.Batch) { b.Id = 5 }) }),
		"no kinds":           with(func(s *api.State) { eachBatch(s, func(b *api.Batch) { b.Kind = 7 }) }),
		"all empty":          with(func(s *api.State) { eachBatch(s, func(b *api.Batch) { b.Members = nil }) }),
		"all members":        with(func(s *api.State) { eachBatch(s, func(b *api.Batch) { b.Members = ids(*s) }) }),
		"members of none":    with(func(s *api.State) { eachBatch(s, func(b *api.Batch) { b.Members = []string{"", "zz", "zz"} }) }),
		"weights below":      with(func(s *api.State) { eachBatch(s, func(b *api.Batch) { b.Weight = math.MinInt64 }) }),
		"weights above":      with(func(s *api.State) { eachBatch(s, func(b *api.Batch) { b.Weight = math.MaxInt64 }) }),
		"no phases":          with(func(s *api.State) { eachOrder(s, func(o *api.Order) { o.Saga.Phase = 99 }) }),
		"all waiting":        with(func(s *api.State) { eachOrder(s, func(o *api.Order) { o.Saga.Phase = api.Waiting }) }),
		"all packed":         with(func(s *api.State) { eachOrder(s, func(o *api.Order) { o.Saga.Phase = api.Packed }) }),
		"all in one":         with(func(s *api.State) { eachOrder(s, func(o *api.Order) { o.Batch = 2 }) }),
		"no lines":           with(func(s *api.State) { eachOrder(s, func(o *api.Order) { o.Lines = nil }) }),
		"effects of batches": with(func(s *api.State) { eachEffect(s, func(e *api.Effect) { e.Batch = 2 }) }),
		"effects of none":    with(func(s *api.State) { eachEffect(s, func(e *api.Effect) { e.Batch, e.Order = 0, "" }) }),
		"effects of one":     with(func(s *api.State) { eachEffect(s, func(e *api.Effect) { e.Batch, e.Order = 0, "c" }) }),
		"effects of one key": with(func(s *api.State) { eachEffect(s, func(e *api.Effect) { e.Key = 10 }) }),
		"effects due never":  with(func(s *api.State) { eachEffect(s, func(e *api.Effect) { e.Due, e.Tries = math.MinInt64, math.MaxInt }) }),
		"long":               long,
		"wide":               wide,
	}
}

func eachBatch(s *api.State, change func(*api.Batch)) {
	for i := range s.Batches {
		change(&s.Batches[i])
	}
}

func eachOrder(s *api.State, change func(*api.Order)) {
	for i := range s.Orders {
		change(&s.Orders[i])
	}
}

func eachEffect(s *api.State, change func(*api.Effect)) {
	for i := range s.Effects {
		change(&s.Effects[i])
	}
}

func ids(s api.State) []string {
	var l []string
	for _, o := range s.Orders {
		l = append(l, o.Id)
	}
	return l
}

// TestWrongStates: at a state that isn't right a call ends all the same, changes nothing that is handed in, and answers the same again.
func TestWrongStates(t *testing.T) {
	wrong := api.Command{Kind: math.MinInt, Id: "\xff", Number: math.MinInt64}
	for what, s := range wrongStates() {
		before := state.Copy(s)
		commands := append(commandsOfSome(), wrong)
		if len(s.Orders) > 100 {
			commands = commands[:20]
		}
		for _, c := range commands {
			first, a := Do(s, c)
			second, b := Do(s, c)
			if !state.Same(first, second) || !reflect.DeepEqual(a, b) {
				t.Errorf("%s, %v: not the same again", what, c)
			}
		}
		if Idle(s) != Idle(before) || !state.Same(s, before) {
			t.Errorf("%s: changed", what)
		}
	}
}
