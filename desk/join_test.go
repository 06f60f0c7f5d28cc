package desk

import (
	"testing"

	"packhorse/api"
)

// TestJoin: P17.2: who joins is the last of its batch, and goes out with it, if it gets full.
func TestJoin(t *testing.T) {
	p := begin(t, caps(3, 100), caps(3, 100))
	p.waiting(submit("c", 10), submit("a", 20))
	p.has("a waiting #1, c waiting #1", "1 open wave: c a 30", "")
	p.ok(api.Reserving, submit("b", 30))
	p.ok(api.Authorising, reply(5, true))
	p.ok(api.Picking, reply(6, true))
	p.has("a picking #1, b picking #1, c picking #1", "1 out wave: c a b 60", "7 pick #1")
	p.waiting(submit("d", 1))
	p.has("a picking #1, b picking #1, c picking #1, d waiting #2", "1 out wave: c a b 60, 2 open wave: d 1", "7 pick #1")
}

// TestFullByWeight: a batch is full at the caps' weight, and one below it isn't.
func TestFullByWeight(t *testing.T) {
	p := begin(t, caps(9, 100), caps(9, 100))
	p.waiting(submit("a", 60), submit("b", 39))
	p.has("a waiting #1, b waiting #1", "1 open wave: a b 99", "")
	p.waiting(submit("c", 1))
	p.has("a picking #1, b picking #1, c picking #1", "1 out wave: a b c 100", "7 pick #1")
	p.waiting(submit("d", 100))
	p.has("a picking #1, b picking #1, c picking #1, d picking #2", "1 out wave: a b c 100, 2 out wave: d 100", "7 pick #1, 10 pick #2")
	p.waiting(submit("e", 0), submit("f", 0))
	p.has("a picking #1, b picking #1, c picking #1, d picking #2, e waiting #3, f waiting #3", "1 out wave: a b c 100, 2 out wave: d 100, 3 open wave: e f 0", "7 pick #1, 10 pick #2")
}

// TestNoRoom: what has no room for who joins goes out first; the new one may be full at once, and go out too.
func TestNoRoom(t *testing.T) {
	p := begin(t, caps(9, 100), caps(9, 100))
	p.waiting(submit("a", 60), submit("b", 30))
	p.waiting(submit("c", 11))
	p.has("a picking #1, b picking #1, c waiting #2", "1 out wave: a b 90, 2 open wave: c 11", "7 pick #1")
	p.ok(api.Reserving, submit("d", 1000))
	p.told(api.Reserve, true)
	p.ok(api.Picking, reply(9, true))
	p.has("a picking #1, b picking #1, c picking #2, d picking #3", "1 out wave: a b 90, 2 out wave: c 11, 3 out wave: d 1000", "7 pick #1, 10 pick #2, 11 pick #3")
}

// TestNoPlace: an open batch of as many members as the caps allow has no room, however light who joins is.
func TestNoPlace(t *testing.T) {
	s := with(func(s *api.State) { s.Waves.Count = 2 })
	s.Orders[len(s.Orders)-1].Saga.Phase, s.Orders[len(s.Orders)-1].Batch = api.Shipped, 0
	s.Batches = append(s.Batches[:6:6], s.Batches[7])
	orderAt(&s, "g").Group = near()
	p := goOn(t, s)
	p.ok(api.Waiting, reply(9, true))
	if got := showBatches(p.s); got != "2 out wave: a-2 a-1 32 @40, 3 out wave: b b0 72 @41, 5 open manifest: c c- 112 @42, 7 open manifest: n 181 @42 s, 8 out manifest: d9 d 152 @43, 9 open wave: e 91 @44 s, 11 out manifest: α 181 @46 s, 12 open wave: g 111 @70" {
		t.Error(got)
	}
}

// TestTwoOpen: of two open batches of one kind and group the last one is joined; the other one stays as it is.
func TestTwoOpen(t *testing.T) {
	p := goOn(t, with(func(s *api.State) { orderAt(s, "g").Group = near() }))
	p.ok(api.Waiting, reply(9, true))
	if o, b := orderAt(&p.s, "g"), p.s.Batches[6]; o.Batch != 10 || b.Id != 10 || b.Weight != 302 || len(b.Members) != 2 || b.Members[1] != "g" || b.Born != 45 {
		t.Error(show(p.s))
	}
	// For 502 in all there is no room in it: it goes out, and not the other one.
	p = goOn(t, with(func(s *api.State) {
		o := orderAt(s, "g")
		o.Group, o.Lines[0].Qty = near(), 31
	}))
	p.ok(api.Waiting, reply(9, true))
	if b := p.s.Batches; b[0].Phase != api.Open || b[6].Phase != api.Out || b[8].Id != 12 || b[8].Phase != api.Open || b[8].Weight != 311 || b[8].Born != 70 || p.s.NextBatch != 13 {
		t.Error(show(p.s))
	}
	if got := orderAt(&p.s, "a-1").Saga.Phase; got != api.Waiting {
		t.Error("who waits in the other one is in phase", got)
	}
}

// TestGroups: only a batch of the same carrier, zone and service is joined.
func TestGroups(t *testing.T) {
	p := begin(t, caps(2, 100), caps(2, 100))
	groups := []api.Group{near(), {Carrier: "dhl", Zone: "n", Service: "fast"}, far(), {Carrier: "ups", Zone: "n", Service: "slow"}, {Carrier: "fast", Zone: "n", Service: "ups"}}
	for i, g := range groups {
		c := submit(name(i), 1)
		c.Group = g
		p.waiting(c)
	}
	if len(p.s.Batches) != 5 || p.s.NextBatch != 6 {
		t.Fatal(show(p.s))
	}
	for i, g := range groups {
		c := submit(name(10+i), 1)
		c.Group = g
		p.waiting(c)
		if b := p.s.Batches[i]; b.Group != g || b.Phase != api.Out || len(b.Members) != 2 || b.Members[1] != name(10+i) {
			t.Error(show(p.s))
		}
	}
	if len(p.s.Batches) != 5 {
		t.Error(show(p.s))
	}
}

// TestKinds: who is packed joins no wave, nor who waits a manifest; each kind has its own caps.
func TestKinds(t *testing.T) {
	p := begin(t, caps(2, 100), caps(3, 50))
	p.waiting(submit("a", 40), submit("b", 40))
	p.has("a picking #1, b picking #1", "1 out wave: a b 80", "5 pick #1")
	p.waiting(submit("c", 90))
	p.ok(0, tick(7), reply(5, true))
	p.has("a sending #3, b packed #4, c waiting #2", "2 open wave: c 90, 3 out manifest: a 40 @7, 4 open manifest: b 40 @7", "8 transmit #3 @7")
	p.waiting(submit("d", 9), submit("e", 0))
	p.has("a sending #3, b packed #4, c picking #2, d picking #2, e waiting #5", "2 out wave: c d 99, 3 out manifest: a 40 @7, 4 open manifest: b 40 @7, 5 open wave: e 0 @7", "8 transmit #3 @7, 11 pick #2 @7")
	p.ok(0, reply(11, true))
	p.has("a sending #3, b sending #4, c sending #6, d packed #7, e waiting #5", "3 out manifest: a 40 @7, 4 out manifest: b 40 @7, 5 open wave: e 0 @7, 6 out manifest: c 90 @7, 7 open manifest: d 9 @7", "8 transmit #3 @7, 14 transmit #4 @7, 15 transmit #6 @7")
}

// TestBorn: a batch is born when it is begun, not when another one joins it or it goes out; its effect is due when it goes out.
func TestBorn(t *testing.T) {
	p := begin(t, caps(9, 100), caps(9, 100))
	p.ok(0, tick(3))
	p.waiting(submit("a", 1))
	p.ok(0, tick(4))
	p.waiting(submit("b", 1))
	p.ok(0, tick(5), shut())
	p.has("a picking #1, b picking #1", "1 out wave: a b 2 @3", "5 pick #1 @12")
}

// TestWholeWeight: an order weighs as much as all its pieces together.
func TestWholeWeight(t *testing.T) {
	p := begin(t, caps(9, 100), caps(9, 100))
	c := submit("a", 3)
	c.Lines = []api.Line{{Sku: "x", Qty: 4, Weight: 10}, {Sku: "y", Qty: 2, Weight: 7}, {Sku: "z", Qty: 9}}
	p.waiting(c)
	p.has("a waiting #1", "1 open wave: a 54", "")
	c.Id = "b"
	p.waiting(c)
	p.has("a picking #1, b waiting #2", "1 out wave: a 54, 2 open wave: b 54", "5 pick #1")
}

// TestLeave: who leaves takes its weight along; a batch that is left empty isn't any more, and its number is not used again.
func TestLeave(t *testing.T) {
	p := begin(t, caps(9, 100), caps(9, 100))
	p.waiting(submit("a", 1), submit("b", 20), submit("c", 40))
	p.ok(api.Voiding, cancel("b"))
	p.has("a waiting #1, b voiding!, c waiting #1", "1 open wave: a c 41", "7 void b")
	p.ok(api.Voiding, cancel("a"))
	p.ok(api.Voiding, cancel("c"))
	p.has("a voiding!, b voiding!, c voiding!", "", "7 void b, 8 void a, 9 void c")
	p.waiting(submit("d", 1))
	p.has("a voiding!, b voiding!, c voiding!, d waiting #2", "2 open wave: d 1", "7 void b, 8 void a, 9 void c")
}

// TestMostMembers: a batch of 64 goes out, whole and in order.
func TestMostMembers(t *testing.T) {
	p := begin(t, caps(64, 1e12), caps(64, 1e12))
	for i := range 63 {
		p.waiting(submit(name(99-i), 100000))
	}
	if b := p.s.Batches; len(b) != 1 || b[0].Phase != api.Open || len(b[0].Members) != 63 {
		t.Fatal(show(p.s))
	}
	p.waiting(submit("z", 100000))
	if b := p.s.Batches; len(b) != 1 || b[0].Phase != api.Out || len(b[0].Members) != 64 || b[0].Members[0] != name(99) || b[0].Weight != 6400000 {
		t.Fatal(show(p.s))
	}
	if e := p.s.Effects; len(e) != 1 || e[0].Kind != api.Pick || e[0].Key != 129 {
		t.Error(showEffects(p.s))
	}
}

// TestHeaviest: the heaviest order there can be goes by itself, however light the caps are.
func TestHeaviest(t *testing.T) {
	p := begin(t, caps(64, 1), caps(64, 1))
	c := submit("a", 0)
	c.Lines = nil
	for _, sku := range []string{"a", "b", "c", "d", "e", "f", "g", "h"} {
		c.Lines = append(c.Lines, api.Line{Sku: sku, Qty: 1000, Weight: 100000})
	}
	p.waiting(c)
	p.has("a picking #1", "1 out wave: a 800000000", "3 pick #1")
	p.ok(0, reply(3, true))
	p.has("a sending #2", "2 out manifest: a 800000000", "4 transmit #2")
}
