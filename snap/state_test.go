package snap

import (
	"bytes"
	"encoding/binary"
	"fmt"
	"math/rand"
	"reflect"
	"slices"
	"testing"

	"packhorse/api"
	"packhorse/state"
)

func far() api.Group { return api.Group{Carrier: "ups", Zone: "s", Service: "fast"} }

// made is an order with some lines, which weigh 10 times qty and one more.
func made(id string, g api.Group, phase int, batch, qty int64) api.Order {
	return api.Order{Id: id, Lines: []api.Line{one("x", qty, 10), one("y", 1, 1)}, Group: g, Total: 1999, Saga: api.Saga{Phase: phase}, Batch: batch}
}

// first is what a desk begins with.
func first() api.State {
	s, _ := state.New(api.Caps{Count: 2, Weight: 50}, api.Caps{Count: 3, Weight: 300}, 4, 40, 20)
	return s
}

// some is a right state with orders of each phase, batches of each kind and phase, and effects of each kind, in which no two lists share memory.
func some() api.State {
	s := api.State{
		Waves:     api.Caps{Count: 3, Weight: 500},
		Manifests: api.Caps{Count: 2, Weight: 300},
		Limit:     4,
		Doors:     []int{32, 64},
		Now:       70,
		NextBatch: 12,
		NextKey:   30,
		Orders: []api.Order{
			made("a-1", near(), api.Waiting, 2, 1),
			made("a-2", near(), api.Waiting, 2, 2),
			made("b", near(), api.Picking, 3, 3),
			made("c", near(), api.Packed, 5, 5),
			made("d", near(), api.Sending, 8, 7),
			made("d9", near(), api.Sending, 8, 8),
			made("e", far(), api.Waiting, 9, 9),
			made("f", near(), api.Reserving, 0, 10),
			made("g", far(), api.Authorising, 0, 11),
			made("h", near(), api.Capturing, 0, 12),
			made("i", near(), api.Shipped, 0, 13),
			made("j", near(), api.Voiding, 0, 14),
			made("k", far(), api.Releasing, 0, 15),
			made("l", near(), api.Compensated, 0, 16),
			made("m", near(), api.Stuck, 0, 17),
		},
		Batches: []api.Batch{
			{Id: 2, Weight: 32, Born: 40, Kind: api.Wave, Phase: api.Open, Group: near(), Members: []string{"a-2", "a-1"}},
			{Id: 3, Weight: 31, Born: 41, Kind: api.Wave, Phase: api.Out, Group: near(), Members: []string{"b"}},
			{Id: 5, Weight: 51, Born: 42, Kind: api.Manifest, Phase: api.Open, Group: near(), Members: []string{"c"}},
			{Id: 8, Weight: 152, Born: 43, Kind: api.Manifest, Phase: api.Out, Group: near(), Members: []string{"d9", "d"}},
			{Id: 9, Weight: 91, Born: 44, Kind: api.Wave, Phase: api.Open, Group: far(), Members: []string{"e"}},
		},
		Effects: []api.Effect{
			{Key: 3, Kind: api.Pick, Batch: 3, Due: 71, Tries: 1},
			{Key: 4, Kind: api.Reserve, Order: "f"},
			{Key: 7, Kind: api.Transmit, Batch: 8, Due: 99, Tries: 5},
			{Key: 9, Kind: api.Authorise, Order: "g", Due: 1 << 40},
			{Key: 10, Kind: api.Capture, Order: "h", Tries: 1000000},
			{Key: 15, Kind: api.Void, Order: "j"},
			{Key: 29, Kind: api.Release, Order: "k"},
		},
	}
	s.Orders[12].Saga = api.Saga{Phase: api.Releasing, Given: true, Refusals: 3}
	return s
}

// with is some state in which something is changed.
func with(change func(*api.State)) api.State {
	s := some()
	change(&s)
	return s
}

// widestState has the greatest numbers and the longest texts that can be.
func widestState() api.State {
	long := "αβγδεζηθικλμνξοπ"
	most := int64(1000000000000)
	var doors []int
	for i := range 96 {
		doors = append(doors, i)
	}
	return api.State{
		Waves:     api.Caps{Count: 64, Weight: most},
		Manifests: api.Caps{Count: 64, Weight: most},
		Limit:     100,
		Doors:     doors,
		Now:       1 << 40,
		NextBatch: most,
		NextKey:   most,
		Orders:    []api.Order{{Id: long, Lines: fullestLines(), Group: widest(), Total: most, Saga: api.Saga{Phase: api.Sending, Given: true, Refusals: 1000000}, Batch: most - 1}},
		Batches:   []api.Batch{{Id: most - 1, Weight: 800000000, Born: 1 << 40, Kind: api.Manifest, Phase: api.Out, Group: widest(), Members: []string{long}}},
		Effects:   []api.Effect{{Key: most - 1, Kind: api.Transmit, Batch: most - 1, Due: 1 << 40, Tries: 1000000}},
	}
}

// many is a state of n orders, each in that phase, by itself or alone in its batch; it is right, if n is at most 400.
func many(n, phase int) api.State {
	s := first()
	for i := range n {
		s.Orders = append(s.Orders, made(fmt.Sprintf("o%04d", i), near(), phase, 0, 1))
	}
	r := rand.New(rand.NewSource(int64(n)))
	gather(r, &s, 1)
	ask(r, &s)
	return s
}

// together is a state of 64 orders that are in one batch.
func together(phase int) api.State {
	s := many(64, phase)
	b := s.Batches[0]
	b.Members, b.Weight = nil, 0
	for i, o := range s.Orders {
		s.Orders[i].Batch = b.Id
		b.Members = append(b.Members, o.Id)
		b.Weight += 11
	}
	s.Batches = []api.Batch{b}
	s.Effects = nil
	ask(rand.New(rand.NewSource(1)), &s)
	return s
}

func rightStates() []api.State {
	all := []api.State{first(), some(), widestState(), together(api.Waiting), together(api.Sending)}
	for phase := 1; phase <= 12; phase++ {
		all = append(all, many(1, phase), many(3, phase))
	}
	for phase := 1; phase <= 12; phase += 2 {
		all = append(all, many(400, phase))
	}
	return append(all, many(400, api.Picking), many(400, api.Sending))
}

// wrongStates are such as their bytes could tell, but for what isn't right in them.
func wrongStates() map[string]api.State {
	all := map[string]api.State{
		"nothing":             {},
		"401 orders":          many(401, api.Shipped),
		"401 orders, batched": many(401, api.Waiting),
		"many orders":         many(1000, api.Reserving),
	}
	for what, change := range map[string]func(*api.State){
		"Waves of none":                 func(s *api.State) { s.Waves.Count = 0 },
		"Waves of 65":                   func(s *api.State) { s.Waves.Count = 65 },
		"Waves of no Weight":            func(s *api.State) { s.Waves.Weight = 0 },
		"Waves of too much":             func(s *api.State) { s.Waves.Weight = 1000000000001 },
		"Manifests of none":             func(s *api.State) { s.Manifests.Count = 0 },
		"Manifests of 65":               func(s *api.State) { s.Manifests.Count = 65 },
		"Manifests of no Weight":        func(s *api.State) { s.Manifests.Weight = 0 },
		"Manifests of too much":         func(s *api.State) { s.Manifests.Weight = 1000000000001 },
		"no Limit":                      func(s *api.State) { s.Limit = 0 },
		"a Limit of 101":                func(s *api.State) { s.Limit = 101 },
		"no Doors":                      func(s *api.State) { s.Doors = nil },
		"a Door of 96":                  func(s *api.State) { s.Doors[1] = 96 },
		"Doors that fall":               func(s *api.State) { s.Doors[0] = 65 },
		"a Door twice":                  func(s *api.State) { s.Doors[0] = 64 },
		"a Now below":                   func(s *api.State) { s.Now = -1 },
		"a Now too far":                 func(s *api.State) { s.Now = 1<<40 + 1 },
		"no NextBatch":                  func(s *api.State) { s.NextBatch = 0 },
		"a low NextBatch":               func(s *api.State) { s.NextBatch = 9 },
		"a high NextBatch":              func(s *api.State) { s.NextBatch = 1000000000001 },
		"no NextKey":                    func(s *api.State) { s.NextKey = 0 },
		"a low NextKey":                 func(s *api.State) { s.NextKey = 29 },
		"a high NextKey":                func(s *api.State) { s.NextKey = 1000000000001 },
		"orders that fall":              func(s *api.State) { s.Orders[0], s.Orders[1] = s.Orders[1], s.Orders[0] },
		"an order twice":                func(s *api.State) { s.Orders[14] = s.Orders[13] },
		"an order's Id":                 func(s *api.State) { s.Orders[14].Id = "M" },
		"an order's Lines":              func(s *api.State) { s.Orders[14].Lines = nil },
		"an order's Sku":                func(s *api.State) { s.Orders[14].Lines[0].Sku = "z" },
		"an order's Qty":                func(s *api.State) { s.Orders[14].Lines[0].Qty = 0 },
		"an order's Total":              func(s *api.State) { s.Orders[14].Total = -1 },
		"an order's Phase":              func(s *api.State) { s.Orders[14].Saga.Phase = 13 },
		"an order of no Phase":          func(s *api.State) { s.Orders[14].Saga.Phase = 0 },
		"an order in no batch":          func(s *api.State) { s.Orders[14].Saga.Phase = api.Waiting },
		"an order in a batch":           func(s *api.State) { s.Orders[14].Batch = 2 },
		"an order whose batch isn't":    func(s *api.State) { s.Orders[6].Batch = 10 },
		"an order in another batch":     func(s *api.State) { s.Orders[6].Batch = 2 },
		"an order of another Group":     func(s *api.State) { s.Orders[6].Group = near() },
		"an order that asks":            func(s *api.State) { s.Orders[14].Saga.Phase = api.Reserving },
		"an order that doesn't ask":     func(s *api.State) { s.Orders[7].Saga.Phase = api.Shipped },
		"batches that fall":             func(s *api.State) { s.Batches[0], s.Batches[1] = s.Batches[1], s.Batches[0] },
		"a batch twice":                 func(s *api.State) { s.Batches = append(s.Batches, s.Batches[4]) },
		"a batch that is Done":          func(s *api.State) { s.Batches[4].Phase = api.Done },
		"a batch of no Kind":            func(s *api.State) { s.Batches[4].Kind = 0 },
		"a batch of no members":         func(s *api.State) { s.Batches[4].Members = nil },
		"a batch of none that is":       func(s *api.State) { s.Batches = append(s.Batches, api.Batch{Id: 11, Kind: 1, Phase: 1, Group: near()}) },
		"a batch of another Weight":     func(s *api.State) { s.Batches[4].Weight++ },
		"a batch of another Group":      func(s *api.State) { s.Batches[4].Group = near() },
		"a batch of another Kind":       func(s *api.State) { s.Batches[4].Kind = api.Manifest },
		"a batch of another's member":   func(s *api.State) { s.Batches[4].Members[0] = "c" },
		"a batch of nobody":             func(s *api.State) { s.Batches[4].Members[0] = "q" },
		"a batch that has a member not": func(s *api.State) { s.Batches[0].Members = s.Batches[0].Members[:1] },
		"a batch with a member twice":   func(s *api.State) { s.Batches[4].Members = []string{"e", "e"} },
		"a batch too few":               func(s *api.State) { s.Batches = s.Batches[:4] },
		"an effect too few":             func(s *api.State) { s.Effects = s.Effects[:6] },
		"an effect twice":               func(s *api.State) { s.Effects = append(s.Effects, s.Effects[6]) },
		"an effect too many": func(s *api.State) {
			s.Effects[0].Key = 2
			s.Effects = slices.Insert(s.Effects, 1, api.Effect{Key: 3, Kind: 1, Order: "f"})
		},
		"effects that fall":          func(s *api.State) { s.Effects[0].Key = 8 },
		"an effect of no Key":        func(s *api.State) { s.Effects[0].Key = 0 },
		"an effect of another Kind":  func(s *api.State) { s.Effects[6].Kind = api.Void },
		"an effect of another order": func(s *api.State) { s.Effects[6].Order = "l" },
		"an effect of another batch": func(s *api.State) { s.Effects[0].Batch = 2 },
		"no effects":                 func(s *api.State) { s.Effects = nil },
	} {
		all[what] = with(change)
	}
	for what, change := range spoilsOfFirst() {
		s := first()
		change(&s)
		all[what] = s
	}
	return all
}

// spoilsOfFirst lay into a state what can't be: it would be right, if that were left out.
func spoilsOfFirst() map[string]func(*api.State) {
	return map[string]func(*api.State){
		"first, and an order that is in no batch": func(s *api.State) { s.Orders = []api.Order{made("a", near(), api.Waiting, 0, 1)} },
		"first, and an order of no Lines": func(s *api.State) {
			s.Orders = []api.Order{{Id: "a", Group: near(), Saga: api.Saga{Phase: api.Shipped}}}
		},
		"first, and a batch of no Id": func(s *api.State) {
			s.Batches = []api.Batch{{Kind: 1, Phase: 1, Group: near(), Members: []string{"a"}}}
		},
		"first, and a batch of no Group":   func(s *api.State) { s.Batches = []api.Batch{{Id: 1, Kind: 1, Phase: 1, Members: []string{"a"}}} },
		"first, and an effect of no Key":   func(s *api.State) { s.Effects = []api.Effect{{Kind: 1, Order: "a"}} },
		"first, and an effect of no order": func(s *api.State) { s.Effects = []api.Effect{{Key: 1, Kind: 1}} },
		"first, and an effect of no Kind":  func(s *api.State) { s.Effects = []api.Effect{{Key: 1, Order: "a"}} },
		"first, and a right order and one of no batch": func(s *api.State) {
			s.Orders = []api.Order{made("a", near(), api.Shipped, 0, 1), made("b", near(), api.Waiting, 0, 1)}
		},
	}
}

// stateParts tells a state's bytes by the chapters' own words, number by number and text by text, with the library's numbers.
func stateParts(s api.State) [][]byte {
	var all [][]byte
	add := func(numbers ...int64) {
		for _, n := range numbers {
			all = append(all, num(uint64(n)))
		}
	}
	say := func(texts ...string) {
		for _, text := range texts {
			all = append(all, txt(text))
		}
	}
	add(int64(s.Waves.Count), s.Waves.Weight, int64(s.Manifests.Count), s.Manifests.Weight, int64(s.Limit), int64(len(s.Doors)))
	for _, n := range s.Doors {
		add(int64(n))
	}
	add(s.Now, s.NextBatch, s.NextKey, int64(len(s.Orders)))
	for _, o := range s.Orders {
		say(o.Id)
		add(int64(len(o.Lines)))
		for _, l := range o.Lines {
			say(l.Sku)
			add(l.Qty, l.Weight)
		}
		say(o.Group.Carrier, o.Group.Zone, o.Group.Service)
		add(o.Total, int64(o.Saga.Phase))
		all = append(all, bit(o.Saga.Given))
		add(int64(o.Saga.Refusals), o.Batch)
	}
	add(int64(len(s.Batches)))
	for _, b := range s.Batches {
		add(b.Id, int64(b.Kind), int64(b.Phase), b.Weight, b.Born)
		say(b.Group.Carrier, b.Group.Zone, b.Group.Service)
		add(int64(len(b.Members)))
		say(b.Members...)
	}
	add(int64(len(s.Effects)))
	for _, e := range s.Effects {
		add(e.Key, int64(e.Kind), int64(e.Tries), e.Due, e.Batch)
		say(e.Order)
	}
	return all
}

func stateByWords(s api.State) []byte {
	return bytes.Join(stateParts(s), nil)
}

func (l *loose) caps() api.Caps {
	return api.Caps{Count: int(l.number()), Weight: int64(l.number())}
}

func (l *loose) order() api.Order {
	o := api.Order{Id: l.text(), Lines: l.lines(), Group: l.group(), Total: int64(l.number())}
	o.Saga = api.Saga{Phase: int(l.number()), Given: l.number() == 1, Refusals: int(l.number())}
	o.Batch = int64(l.number())
	return o
}

func (l *loose) batch() api.Batch {
	var b api.Batch
	b.Id, b.Kind, b.Phase, b.Weight, b.Born = int64(l.number()), int(l.number()), int(l.number()), int64(l.number()), int64(l.number())
	b.Group = l.group()
	for n := l.number(); n > 0 && !l.bad; n-- {
		b.Members = append(b.Members, l.text())
	}
	return b
}

func (l *loose) effect() api.Effect {
	return api.Effect{Key: int64(l.number()), Kind: int(l.number()), Tries: int(l.number()), Due: int64(l.number()), Batch: int64(l.number()), Order: l.text()}
}

// readByWords tells the Right state whose bytes b is, and whether there is one: it reads what b may mean, and asks whether that is Right and written so.
func readByWords(b []byte) (api.State, bool) {
	l := &loose{rest: b}
	s := api.State{Waves: l.caps(), Manifests: l.caps(), Limit: int(l.number())}
	for n := l.number(); n > 0 && !l.bad; n-- {
		s.Doors = append(s.Doors, int(l.number()))
	}
	s.Now, s.NextBatch, s.NextKey = int64(l.number()), int64(l.number()), int64(l.number())
	for n := l.number(); n > 0 && !l.bad; n-- {
		s.Orders = append(s.Orders, l.order())
	}
	for n := l.number(); n > 0 && !l.bad; n-- {
		s.Batches = append(s.Batches, l.batch())
	}
	for n := l.number(); n > 0 && !l.bad; n-- {
		s.Effects = append(s.Effects, l.effect())
	}
	if l.bad || !state.Right(s) || !bytes.Equal(stateByWords(s), b) {
		return api.State{}, false
	}
	return s, true
}

func reads(t *testing.T, what string, b []byte, want api.State) {
	t.Helper()
	if s, errno := Read(b); !state.Same(s, want) || errno != api.OK {
		t.Errorf("%s: %.300s %d, want %.300s", what, fmt.Sprint(s), errno, fmt.Sprint(want))
	}
}

func readsNone(t *testing.T, what string, b []byte) {
	t.Helper()
	if s, errno := Read(b); !state.Same(s, api.State{}) || errno != api.ErrSnap {
		t.Errorf("%s: %.300s %d", what, fmt.Sprint(s), errno)
	}
}

// readHolds holds Read of b against readByWords, and tells whether there is such a state.
func readHolds(t *testing.T, what string, b []byte) bool {
	t.Helper()
	want, there := readByWords(b)
	if there {
		reads(t, what, b, want)
	} else {
		readsNone(t, what, b)
	}
	return there
}

// holdsThereAndBack holds State of a right state against the chapters' words, and Read of that against the state.
func holdsThereAndBack(t *testing.T, what string, s api.State) {
	t.Helper()
	b := State(s)
	if want := stateByWords(s); !bytes.Equal(b, want) {
		t.Errorf("%s: %.300q, want %.300q", what, b, want)
	}
	reads(t, what, b, s)
}

func TestStateAndRead(t *testing.T) {
	for i, x := range []struct {
		s    api.State
		want string
	}{
		{first(), "\x02\x32\x03\xac\x02\x04\x02\x14\x28\x00\x01\x01\x00\x00\x00"},
		{api.State{Waves: api.Caps{Count: 64, Weight: 1000000000000}, Manifests: api.Caps{Count: 1, Weight: 1}, Limit: 100, Doors: []int{95}, Now: 1 << 40, NextBatch: 128, NextKey: 1000000000000},
			"\x40\x80\xa0\x94\xa5\x8d\x1d\x01\x01\x64\x01\x5f\x80\x80\x80\x80\x80\x20\x80\x01\x80\xa0\x94\xa5\x8d\x1d\x00\x00\x00"},
		{api.State{
			Waves: api.Caps{Count: 2, Weight: 50}, Manifests: api.Caps{Count: 3, Weight: 300}, Limit: 4, Doors: []int{20}, Now: 7, NextBatch: 9, NextKey: 6,
			Orders: []api.Order{
				{Id: "a", Lines: []api.Line{one("x", 2, 5)}, Group: near(), Total: 300, Saga: api.Saga{Phase: api.Picking, Given: true, Refusals: 1}, Batch: 8},
				{Id: "β", Lines: []api.Line{one("x", 1, 0), one("y", 128, 1)}, Group: far(), Saga: api.Saga{Phase: api.Waiting}, Batch: 3},
				{Id: "γ", Lines: []api.Line{one("x", 1, 1)}, Group: near(), Total: 1, Saga: api.Saga{Phase: api.Reserving}},
			},
			Batches: []api.Batch{
				{Id: 3, Weight: 128, Born: 2, Kind: api.Wave, Phase: api.Open, Group: far(), Members: []string{"β"}},
				{Id: 8, Weight: 10, Kind: api.Wave, Phase: api.Out, Group: near(), Members: []string{"a"}},
			},
			Effects: []api.Effect{{Key: 2, Kind: api.Reserve, Order: "γ"}, {Key: 5, Kind: api.Pick, Batch: 8, Due: 130, Tries: 2}},
		}, "\x02\x32\x03\xac\x02\x04\x01\x14\x07\x09\x06" +
			"\x03" +
			"\x01a\x01\x01x\x02\x05\x03ups\x01n\x04fast\xac\x02\x04\x01\x01\x08" +
			"\x02β\x02\x01x\x01\x00\x01y\x80\x01\x01\x03ups\x01s\x04fast\x00\x03\x00\x00\x03" +
			"\x02γ\x01\x01x\x01\x01\x03ups\x01n\x04fast\x01\x01\x00\x00\x00" +
			"\x02" +
			"\x03\x01\x01\x80\x01\x02\x03ups\x01s\x04fast\x01\x02β" +
			"\x08\x01\x02\x0a\x00\x03ups\x01n\x04fast\x01\x01a" +
			"\x02" +
			"\x02\x01\x00\x00\x00\x02γ" +
			"\x05\x03\x02\x82\x01\x08\x00"},
	} {
		if !state.Right(x.s) {
			t.Fatalf("state %d isn't right: the test is wrong", i)
		}
		if got := State(x.s); string(got) != x.want {
			t.Errorf("State of state %d: %q, want %q", i, got, x.want)
		}
		reads(t, fmt.Sprintf("state %d", i), []byte(x.want), x.s)
	}
}

func TestStateHoldsToTheWords(t *testing.T) {
	for i, s := range rightStates() {
		if !state.Right(s) {
			t.Fatalf("state %d isn't right: the test is wrong", i)
		}
		holdsThereAndBack(t, fmt.Sprintf("state %d", i), s)
	}
}

// TestStateOfEmptyLists: a list that is empty is written as nil is.
func TestStateOfEmptyLists(t *testing.T) {
	s := first()
	want := State(s)
	s.Orders, s.Batches, s.Effects = []api.Order{}, []api.Batch{}, some().Effects[:0]
	if got := State(s); !bytes.Equal(got, want) {
		t.Errorf("%q, want %q", got, want)
	}
}

// TestStateOfWrongOnes: nothing is promised of what it answers, but that it does.
func TestStateOfWrongOnes(t *testing.T) {
	for what, s := range wrongStates() {
		s, asItWas := roomy(s)
		State(s)
		if !asItWas() {
			t.Errorf("%s: changed", what)
		}
	}
	below := api.State{Waves: api.Caps{Count: -1, Weight: -1}, Limit: -1, Doors: []int{-1}, Now: -1, NextBatch: -1, NextKey: -1, Orders: make([]api.Order, 1), Batches: []api.Batch{{Id: -1, Kind: -1}}, Effects: []api.Effect{{Key: -1, Tries: -1}}}
	State(below)
	State(api.State{Doors: make([]int, 1<<20), Orders: make([]api.Order, 1<<16), Batches: make([]api.Batch, 1<<16), Effects: make([]api.Effect, 1<<20)})
}

// roomy lays all lists of a state, and those within, into memory with room behind them that is written full, and tells whether all of that is still as it was.
func roomy(s api.State) (given api.State, asItWas func() bool) {
	s = state.Copy(s)
	s.Doors = withRoom(s.Doors, 7, -1)
	s.Effects = withRoom(s.Effects, api.Effect{Key: 1, Kind: 1, Order: "spare"}, api.Effect{})
	for i := range s.Orders {
		s.Orders[i].Lines = withRoom(s.Orders[i].Lines, one("spare", 9, 9), api.Line{})
	}
	s.Orders = withRoom(s.Orders, made("spare", near(), api.Waiting, 1, 1), api.Order{})
	for i := range s.Batches {
		s.Batches[i].Members = withRoom(s.Batches[i].Members, "spare", "")
	}
	s.Batches = withRoom(s.Batches, api.Batch{Id: 3, Kind: 1, Phase: 1, Group: near(), Members: []string{"spare"}}, api.Batch{})
	was := state.Copy(full(s))
	return s, func() bool { return state.Same(full(s), was) }
}

func withRoom[T any](l []T, behind ...T) []T {
	return slices.Concat(l, behind)[:len(l)]
}

// full is the state with all its lists as long as their memory.
func full(s api.State) api.State {
	s.Doors = s.Doors[:cap(s.Doors)]
	s.Effects = s.Effects[:cap(s.Effects)]
	s.Orders = slices.Clone(s.Orders[:cap(s.Orders)])
	for i, o := range s.Orders {
		s.Orders[i].Lines = o.Lines[:cap(o.Lines)]
	}
	s.Batches = slices.Clone(s.Batches[:cap(s.Batches)])
	for i, b := range s.Batches {
		s.Batches[i].Members = b.Members[:cap(b.Members)]
	}
	return s
}

// scribble writes over all lists of a state, spare room and lists within too.
func scribble(s api.State) {
	s = full(s)
	for _, o := range s.Orders {
		clear(o.Lines)
	}
	for _, b := range s.Batches {
		clear(b.Members)
	}
	clear(s.Doors)
	clear(s.Effects)
}

// TestStateSharesNoMemory: a state stays as it was, spare room too, and an answer lies in no other one.
func TestStateSharesNoMemory(t *testing.T) {
	for i, x := range rightStates() {
		s, asItWas := roomy(x)
		a, b := State(s), State(s)
		want := bytes.Clone(b)
		clear(a[:cap(a)])
		if !asItWas() || !bytes.Equal(b, want) {
			t.Errorf("state %d: changed or shared", i)
		}
		scribble(s)
		if !bytes.Equal(b, want) || !bytes.Equal(b, stateByWords(x)) {
			t.Errorf("state %d: kept", i)
		}
	}
}

// TestReadSharesNoMemory: bytes stay as they were, spare room too, and a state stays, whatever becomes of them and of another one.
func TestReadSharesNoMemory(t *testing.T) {
	for i, s := range rightStates() {
		b := stateByWords(s)
		room := append(bytes.Clone(b), "spare room"...)
		was := bytes.Clone(room)
		one, _ := Read(room[:len(b)])
		two, errno := Read(room[:len(b)])
		if !bytes.Equal(room, was) || sharesMemory(one, two, room) {
			t.Errorf("state %d: changed or shared", i)
		}
		clear(room)
		scribble(one)
		if !state.Same(two, s) || errno != api.OK {
			t.Errorf("state %d: kept, %d", i, errno)
		}
	}
}

func TestReadOfNothing(t *testing.T) {
	readsNone(t, "nil", nil)
	for _, b := range []string{"", "\x00", "\x80", "\xff", "\x02\x32", "some bytes", "\x06"} {
		readsNone(t, fmt.Sprintf("%q", b), []byte(b))
	}
	for x := range 256 {
		readsNone(t, fmt.Sprintf("a million of %d", x), bytes.Repeat([]byte{byte(x)}, 1<<20))
	}
	for i, c := range bases() {
		readsNone(t, fmt.Sprintf("base %d", i), Command(c))
	}
}

// TestReadCutOff: a state that is cut off anywhere is none, also where noughts in place of what is lacking would make it Right.
func TestReadCutOff(t *testing.T) {
	for i, s := range rightStates() {
		b := stateByWords(s)
		for n := range b {
			// Of a long one not each place is tried: its orders are alike.
			if len(b) < 3000 || n%100 == 0 || n > len(b)-200 {
				readsNone(t, fmt.Sprintf("state %d, %d bytes of it", i, n), b[:n])
			}
		}
	}
}

func TestReadWithSomethingBehind(t *testing.T) {
	for i, s := range []api.State{first(), some(), widestState(), many(3, api.Picking)} {
		b := stateByWords(s)
		for x := range 256 {
			readsNone(t, fmt.Sprintf("state %d with %d behind it", i, x), append(bytes.Clone(b), byte(x)))
		}
		readsNone(t, fmt.Sprintf("state %d twice", i), slices.Concat(b, b))
		readsNone(t, fmt.Sprintf("state %d with much behind it", i), append(bytes.Clone(b), make([]byte, 1<<12)...))
	}
}

func TestReadWithAByteChanged(t *testing.T) {
	right := 0
	for i, s := range []api.State{first(), some(), widestState(), many(2, api.Picking), many(2, api.Capturing)} {
		b := stateByWords(s)
		for at := range b {
			for x := range 256 {
				changed := bytes.Clone(b)
				changed[at] = byte(x)
				if readHolds(t, fmt.Sprintf("state %d, byte %d is %d", i, at, x), changed) {
					right++
				}
			}
			readHolds(t, fmt.Sprintf("state %d without byte %d", i, at), slices.Delete(bytes.Clone(b), at, at+1))
			for _, x := range []byte{0, 1, 2, 'a', 127, 128, 129, 255} {
				readHolds(t, fmt.Sprintf("state %d with %d at %d", i, x, at), slices.Insert(bytes.Clone(b), at, x))
			}
		}
	}
	if right < 5000 {
		t.Errorf("only %d are Right", right)
	}
}

// TestReadOfWrongOnes: what isn't Right is none, though it is written as State writes.
func TestReadOfWrongOnes(t *testing.T) {
	for what, s := range wrongStates() {
		if state.Right(s) {
			t.Fatalf("%s: that is right, the test is wrong", what)
		}
		readsNone(t, what, stateByWords(s))
		readsNone(t, what+", by State", State(s))
	}
}

// TestReadAtEachNumber turns each number, also the lengths of texts, and all counts to such as are far beyond what follows.
func TestReadAtEachNumber(t *testing.T) {
	var numbers []uint64
	for _, most := range []uint64{1, 8, 32, 64, 96, 100, 400, 1000, 100000, 1000000, 1000000000000, 1 << 40} {
		numbers = append(numbers, numbersAround(most)...)
	}
	slices.Sort(numbers)
	numbers = slices.Compact(numbers)
	right := 0
	for i, s := range []api.State{first(), some(), widestState(), many(2, api.Sending)} {
		parts := stateParts(s)
		for at, part := range parts {
			_, size := binary.Uvarint(part)
			for _, n := range numbers {
				if readHolds(t, fmt.Sprintf("state %d, part %d begins with %d", i, at, n), replaced(parts, at, append(num(n), part[size:]...))) {
					right++
				}
			}
		}
	}
	if right < 3000 {
		t.Errorf("only %d are Right", right)
	}
}

// TestReadOfCountsFarBeyond: each count of a state, told to be far more than what follows, be there much more or nothing.
func TestReadOfCountsFarBeyond(t *testing.T) {
	parts := stateParts(first())
	counts := []int{5, len(parts) - 3, len(parts) - 2, len(parts) - 1}
	for _, at := range counts {
		for _, n := range []uint64{1, 96, 97, 400, 401, 65536, 1 << 31, 1 << 32, 1000000000000, 1000000000001, 1 << 40, 1 << 62, 1 << 63, 1<<64 - 1} {
			readsNone(t, fmt.Sprintf("count at %d is %d", at, n), replaced(parts, at, num(n)))
			readsNone(t, fmt.Sprintf("count at %d is %d, with much behind it", at, n), append(replaced(parts, at, num(n)), make([]byte, 1<<16)...))
			readsNone(t, fmt.Sprintf("count at %d is %d, and nothing behind it", at, n), append(bytes.Join(parts[:at], nil), num(n)...))
		}
	}
}

// TestReadOfNumbersThatAreWrittenLonger: State writes each number in one way alone.
func TestReadOfNumbersThatAreWrittenLonger(t *testing.T) {
	for i, s := range []api.State{first(), some(), widestState()} {
		parts := stateParts(s)
		for at, part := range parts {
			for _, tail := range []string{"\x00", "\x80\x00", "\x80\x80\x80\x80\x80\x80\x80\x80\x80\x00"} {
				readsNone(t, fmt.Sprintf("state %d, part %d", i, at), replaced(parts, at, longer(part, tail)))
			}
		}
	}
}

// TestReadByChance: states by chance, with parts or bytes changed by chance.
func TestReadByChance(t *testing.T) {
	r := rand.New(rand.NewSource(163))
	right := 0
	for i := range 20000 {
		parts := stateParts(stateByChance(r, pick(r, 2, 6)))
		for range r.Intn(3) {
			at := r.Intn(len(parts))
			switch r.Intn(4) {
			case 0:
				parts[at] = num(uint64(r.Intn(20)))
			case 1:
				parts[at] = parts[r.Intn(len(parts))]
			case 2:
				parts = slices.Delete(parts, at, at+1)
			case 3:
				parts = slices.Insert(parts, at, num(uint64(r.Intn(3))))
			}
		}
		b := bytes.Join(parts, nil)
		if r.Intn(4) == 0 {
			b[r.Intn(len(b))]++
		}
		if readHolds(t, fmt.Sprintf("try %d", i), b) {
			right++
		}
	}
	if right < 3000 || right > 17000 {
		t.Errorf("only one side is tried: %d are Right", right)
	}
}

// TestReadTellsAllOver: what the calls tell hangs on what they are handed alone.
func TestReadTellsAllOver(t *testing.T) {
	for i, s := range rightStates() {
		b := State(s)
		Told(b)
		Read(b[:len(b)/2])
		one, errno := Read(b)
		two, again := Read(bytes.Clone(b))
		if !reflect.DeepEqual(one, two) || errno != again || !bytes.Equal(State(one), b) {
			t.Errorf("state %d is told in two ways", i)
		}
	}
}
