package desk

import (
	"fmt"
	"slices"
	"strings"
	"testing"

	"packhorse/api"
)

// TestReplyOfNoKey: P17.5: what nobody asked for, or what was answered already.
func TestReplyOfNoKey(t *testing.T) {
	p := begin(t, caps(2, 100), caps(2, 100))
	p.fails(api.ErrKey, reply(1, true), reply(1, false), reply(1e12, true))
	p = goOn(t, some())
	for _, key := range []int64{1, 2, 5, 6, 8, 11, 14, 17, 28, 30, 31, 1e12} {
		p.fails(api.ErrKey, reply(key, true), reply(key, false))
	}
	for _, e := range some().Effects {
		for _, yes := range []bool{true, false} {
			p := goOn(t, some())
			p.do(reply(e.Key, yes))
			p.fails(api.ErrKey, reply(e.Key, yes), reply(e.Key, !yes))
		}
	}
}

// TestReplyToOrder: P17.5: to an effect of each kind that is of one order.
func TestReplyToOrder(t *testing.T) {
	for _, x := range []struct {
		key    int64
		yes    bool
		id     string
		phase  int
		effect string
	}{
		{4, true, "f", api.Authorising, "30 authorise f @70"},
		{4, false, "f", api.Compensated, ""},
		{9, true, "g", api.Waiting, ""},
		{9, false, "g", api.Releasing, "30 release g @70"},
		{10, true, "h", api.Shipped, ""},
		{10, false, "h", api.Capturing, "30 capture h @70"},
		{15, true, "j", api.Releasing, "30 release j @70"},
		{15, false, "j", api.Voiding, "30 void j @70"},
		{16, true, "k", api.Compensated, ""},
		{16, false, "k", api.Releasing, "30 release k @70"},
	} {
		p := goOn(t, some())
		p.ok(x.phase, reply(x.key, x.yes))
		left := some().Effects
		left = slices.DeleteFunc(left, func(e api.Effect) bool { return e.Key == x.key })
		want, next := showEffects(api.State{Effects: left}), int64(30)
		if x.effect != "" {
			want, next = want+", "+x.effect, 31
		}
		if showEffects(p.s) != want || p.s.NextKey != next {
			t.Errorf("key %d, %v: %s, want %s", x.key, x.yes, showEffects(p.s), want)
		}
		p.ok(x.phase, ask(x.id))
	}
}

// TestReplyToGiven: who is to be given up goes back.
func TestReplyToGiven(t *testing.T) {
	for _, x := range []struct {
		key    int64
		yes    bool
		id     string
		phase  int
		effect string
	}{
		{4, true, "f", api.Releasing, "30 release f @70"},
		{4, false, "f", api.Compensated, "29 transmit #11"},
		{9, true, "g", api.Voiding, "30 void g @70"},
		{9, false, "g", api.Releasing, "30 release g @70"},
	} {
		p := goOn(t, some())
		p.do(cancel(x.id))
		p.ok(x.phase, reply(x.key, x.yes))
		if got := showEffects(p.s); !strings.HasSuffix(got, ", "+x.effect) {
			t.Errorf("key %d, %v: %s", x.key, x.yes, got)
		}
		if showBatches(p.s) != openOfSome {
			t.Error(showBatches(p.s))
		}
	}
}

// TestReplyJoins: who waits then joins a wave; the phase that is told is that behind it.
func TestReplyJoins(t *testing.T) {
	p := begin(t, caps(2, 100), caps(2, 100))
	p.ok(api.Reserving, submit("a", 1), submit("b", 1), submit("c", 1))
	p.told(api.Reserve, true)
	p.ok(api.Waiting, reply(6, true))
	p.ok(api.Picking, reply(4, true))
	p.ok(api.Waiting, reply(5, true))
	p.has("a picking #1, b waiting #2, c picking #1", "1 out wave: c a 2, 2 open wave: b 1", "7 pick #1")
}

// TestReplyToOne: a batch of one member isn't any more, whatever is answered; no phase is told.
func TestReplyToOne(t *testing.T) {
	for _, x := range []struct {
		yes, cancelled bool
		orders         string
		batches        string
		effects        string
	}{
		{true, false, "a packed #2", "2 open manifest: a 1", ""},
		{true, true, "a voiding!", "", "4 void a"},
		{false, false, "a voiding", "", "4 void a"},
		{false, true, "a voiding!", "", "4 void a"},
	} {
		p := begin(t, caps(1, 100), caps(2, 100))
		p.waiting(submit("a", 1))
		if x.cancelled {
			p.ok(api.Picking, cancel("a"))
		}
		p.ok(0, reply(3, x.yes))
		p.has(x.orders, x.batches, x.effects)
	}
	for _, x := range []struct {
		yes     bool
		orders  string
		effects string
	}{
		{true, "a capturing", "5 capture a"},
		{false, "a voiding", "5 void a"},
	} {
		p := begin(t, caps(1, 100), caps(1, 100))
		p.waiting(submit("a", 1))
		p.ok(0, reply(3, true))
		p.has("a sending #2", "2 out manifest: a 1", "4 transmit #2")
		p.ok(0, reply(4, x.yes))
		p.has(x.orders, "", x.effects)
	}
}

// TestReplyYesToSeveral: each member goes on, in order, one behind the other: what it asks for, and the manifest that it joins, comes ahead of the next one's.
func TestReplyYesToSeveral(t *testing.T) {
	p := begin(t, caps(5, 100), caps(2, 40))
	p.waiting(submit("e", 10), submit("c", 20), submit("a", 15), submit("d", 1), submit("b", 41))
	p.has("a picking #1, b picking #1, c picking #1, d picking #1, e picking #1", "1 out wave: e c a d b 87", "11 pick #1")
	p.ok(api.Picking, cancel("d"), cancel("e"))
	p.ok(0, tick(2), reply(11, true))
	// e is voided; c joins; a joins and fills it; d is voided; b goes out by itself.
	p.has("a sending #2, b sending #3, c sending #2, d voiding!, e voiding!", "2 out manifest: c a 35 @2, 3 out manifest: b 41 @2", "12 void e @2, 13 transmit #2 @2, 14 void d @2, 15 transmit #3 @2")
	p.ok(0, reply(13, true))
	p.has("a capturing, b sending #3, c capturing, d voiding!, e voiding!", "3 out manifest: b 41 @2", "12 void e @2, 14 void d @2, 15 transmit #3 @2, 16 capture c @2, 17 capture a @2")
}

// TestReplyGoesOutFirst: a manifest without room goes out ahead of the one that comes instead.
func TestReplyGoesOutFirst(t *testing.T) {
	p := begin(t, caps(3, 100), caps(9, 40))
	p.waiting(submit("a", 30), submit("b", 20), submit("c", 15))
	p.ok(0, reply(7, true))
	p.has("a sending #2, b packed #3, c packed #3", "2 out manifest: a 30, 3 open manifest: b c 35", "8 transmit #2")
}

// TestReplyNoToSeveral: instead of the batch there are two, asked for as it was; of an odd number the first one is greater by one.
func TestReplyNoToSeveral(t *testing.T) {
	p := begin(t, caps(5, 100), caps(5, 100))
	p.ok(0, tick(1))
	p.waiting(submit("e", 1), submit("c", 2), submit("a", 3), submit("d", 4), submit("b", 5))
	p.ok(0, tick(1), reply(11, false))
	p.has("a picking #2, b picking #3, c picking #2, d picking #3, e picking #2", "2 out wave: e c a 6 @1, 3 out wave: d b 9 @1", "12 pick #2 @2, 13 pick #3 @2")
	p.ok(0, tick(1), reply(12, false))
	p.has("a picking #5, b picking #3, c picking #4, d picking #3, e picking #4", "3 out wave: d b 9 @1, 4 out wave: e c 3 @1, 5 out wave: a 3 @1", "13 pick #3 @2, 14 pick #4 @3, 15 pick #5 @3")
	p.ok(0, reply(15, false), reply(14, false), reply(13, true))
	p.has("a voiding, b packed #8, c picking #7, d packed #8, e picking #6", "6 out wave: e 1 @1, 7 out wave: c 2 @1, 8 open manifest: d b 9 @3", "16 void a @3, 17 pick #6 @3, 18 pick #7 @3")
	p.ok(0, reply(18, true), reply(17, true))
	p.has("a voiding, b packed #8, c packed #8, d packed #8, e packed #8", "8 open manifest: d b c e 12 @3", "16 void a @3")
}

// TestReplyNoToTwo: a wave of two, of which one was cancelled meanwhile; it goes back, whatever is answered.
func TestReplyNoToTwo(t *testing.T) {
	p := begin(t, caps(2, 100), caps(2, 100))
	p.waiting(submitFar("b", 7), submitFar("a", 2))
	p.ok(api.Picking, cancel("b"))
	p.ok(0, reply(5, false))
	p.has("a picking #3 s, b picking #2! s", "2 out wave: b 7 s, 3 out wave: a 2 s", "6 pick #2, 7 pick #3")
	p.ok(0, reply(7, true), reply(6, false))
	p.has("a packed #4 s, b voiding! s", "4 open manifest: a 2 s", "8 void b")
	p.waiting(submitFar("d", 1), submitFar("c", 50))
	p.ok(0, shut(), reply(13, true))
	p.has("a sending #4 s, b voiding! s, c sending #6 s, d sending #6 s", "4 out manifest: a 2 s, 6 out manifest: d c 51 s", "8 void b, 14 transmit #4, 15 transmit #6")
}

// TestReplyToSome: to the batches of some state, Yes and No.
func TestReplyToSome(t *testing.T) {
	for _, x := range []struct {
		key     int64
		yes     bool
		most    int64 // how heavy a manifest may be
		orders  []string
		batches []string // those that are new
		effects []string
	}{
		// With b it is full, and goes out; with b alone it isn't, but has no room for b0; it has room for both.
		{3, true, 143, []string{"b sending #5", "b0 packed #12"}, []string{"12 open manifest: b0 41 @70"}, []string{"30 transmit #5 @70"}},
		{3, true, 183, []string{"b sending #5", "b0 packed #12"}, []string{"12 open manifest: b0 41 @70"}, []string{"30 transmit #5 @70"}},
		{3, true, 185, []string{"b packed #5", "b0 packed #5"}, nil, nil},
		{3, false, 143, []string{"b picking #12", "b0 picking #13"}, []string{"12 out wave: b 31 @41", "13 out wave: b0 41 @41"}, []string{"30 pick #12 @70", "31 pick #13 @70"}},
		{7, true, 143, []string{"d capturing", "d9 capturing"}, nil, []string{"30 capture d9 @70", "31 capture d @70"}},
		{7, false, 143, []string{"d sending #13", "d9 sending #12"}, []string{"12 out manifest: d9 81 @43", "13 out manifest: d 71 @43"}, []string{"30 transmit #12 @70", "31 transmit #13 @70"}},
		{29, true, 143, []string{"α capturing s"}, nil, []string{"30 capture α @70"}},
		{29, false, 143, []string{"α voiding s"}, nil, []string{"30 void α @70"}},
	} {
		p := goOn(t, with(func(s *api.State) { s.Manifests = caps(5, x.most) }))
		p.ok(0, reply(x.key, x.yes))
		orders, batches, effects := strings.Split(showOrders(p.s), ", "), strings.Split(showBatches(p.s), ", "), strings.Split(showEffects(p.s), ", ")
		for _, o := range x.orders {
			if !slices.Contains(orders, o) {
				t.Errorf("key %d, %v: %q, want %q", x.key, x.yes, orders, o)
			}
		}
		// Seven batches and effects are left of those that there were.
		if !slices.Equal(batches[7:], x.batches) || !slices.Equal(effects[7:], x.effects) {
			t.Errorf("key %d, %v: %q and %q, want %q and %q", x.key, x.yes, batches[7:], effects[7:], x.batches, x.effects)
		}
	}
}

// TestHalvingToTheBad: batches of each size, of which some are bad: just these are voided, all others are packed.
func TestHalvingToTheBad(t *testing.T) {
	for n := 1; n <= 64; n++ {
		for _, bad := range [][]int{{}, {0}, {n - 1}, {n / 2}, {0, n - 1}, {n / 3, n / 3 * 2}} {
			p := oneWave(t, n)
			tries := 0
			for len(p.s.Effects) > 0 && tries < 300 {
				e := p.s.Effects[0]
				if e.Kind != api.Pick {
					p.do(reply(e.Key, true))
					continue
				}
				b := p.s.Batches[slices.IndexFunc(p.s.Batches, func(b api.Batch) bool { return b.Id == e.Batch })]
				spoiled := slices.ContainsFunc(bad, func(i int) bool { return slices.Contains(b.Members, name(i)) })
				p.ok(0, reply(e.Key, !spoiled))
				tries++
			}
			for i, o := range p.s.Orders {
				want := api.Packed
				if n == 64 && len(bad) == 0 {
					want = api.Capturing
				}
				if slices.Contains(bad, i) {
					want = api.Compensated
				}
				if got := o.Saga.Phase; got != want && !(want == api.Capturing && got == api.Shipped) {
					t.Fatalf("%d, of which %v are bad: %d is in phase %d", n, bad, i, got)
				}
			}
			if len(bad) == 0 && tries != 1 {
				t.Errorf("%d: %d tries", n, tries)
			}
		}
	}
}

// TestReplyInAnyOrder: replies that come in any order bring each order to its end.
func TestReplyInAnyOrder(t *testing.T) {
	for turn := range 30 {
		p := begin(t, caps(3, 100), caps(4, 100))
		for i := range 20 {
			p.ok(api.Reserving, submit(name(i), int64(i*turn%60)))
		}
		for step := 0; !Idle(p.s); step++ {
			if step > 5000 {
				t.Fatal("no end:", show(p.s))
			}
			if len(p.s.Effects) == 0 {
				p.ok(0, shut())
				continue
			}
			e := p.s.Effects[(step*7+turn)%len(p.s.Effects)]
			p.do(reply(e.Key, (step+turn)%5 > 0))
		}
		if len(p.s.Batches)+len(p.s.Effects) > 0 {
			t.Fatal(fmt.Sprint("something is left: ", show(p.s)))
		}
	}
}
