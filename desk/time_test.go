package desk

import (
	"fmt"
	"slices"
	"testing"

	"packhorse/api"
	"packhorse/state"
)

// The batches of some state, ahead of a closing and behind it.
const (
	openOfSome = "2 open wave: a-2 a-1 32 @40, 3 out wave: b b0 72 @41, 5 open manifest: c c- 112 @42, 7 open manifest: n 181 @42 s, 8 out manifest: d9 d 152 @43, 9 open wave: e 91 @44 s, 10 open wave: β 191 @45, 11 out manifest: α 181 @46 s"
	outOfSome  = "2 out wave: a-2 a-1 32 @40, 3 out wave: b b0 72 @41, 5 out manifest: c c- 112 @42, 7 out manifest: n 181 @42 s, 8 out manifest: d9 d 152 @43, 9 out wave: e 91 @44 s, 10 out wave: β 191 @45, 11 out manifest: α 181 @46 s"
)

// goneOut holds that all that was open in some state is out, and was asked for at that tick, the ids rising.
func (p *play) goneOut(at int64) {
	p.Helper()
	want := fmt.Sprintf("%s, 30 pick #2 @%[2]d, 31 transmit #5 @%[2]d, 32 transmit #7 @%[2]d, 33 pick #9 @%[2]d, 34 pick #10 @%[2]d", showEffects(some()), at)
	if showBatches(p.s) != outOfSome || showEffects(p.s) != want || p.s.NextKey != 35 || p.s.NextBatch != 12 || p.s.Now != at {
		p.Errorf("%s, want\n%s\n%s", show(p.s), outOfSome, want)
	}
	orders := "a-1 picking #2, a-2 picking #2, b picking #3, b0 picking #3, c sending #5, c- sending #5, d sending #8, d9 sending #8, e picking #9 s, f reserving, g authorising s, h capturing, i shipped, j voiding, k releasing s, l compensated, m stuck, n sending #7 s, α sending #11 s, β picking #10"
	if got := showOrders(p.s); got != orders {
		p.Errorf("%s, want\n%s", got, orders)
	}
}

// stayed holds that nothing has become of some state but that it is later.
func (p *play) stayed(at int64) {
	p.Helper()
	want := some()
	want.Now = at
	if !state.Same(p.s, want) {
		p.Errorf("%s, want\n%s", show(p.s), show(want))
	}
}

// TestTick: P17.4: the doors close at 32 and 64 of each day.
func TestTick(t *testing.T) {
	for _, x := range []struct {
		from, ticks int64
		closes      bool
	}{
		{0, 1, false}, {0, 31, false}, {0, 32, true}, {0, 33, true}, {0, 64, true}, {0, 96, true},
		{31, 1, true}, {31, 2, true}, {32, 1, false}, {32, 31, false}, {32, 32, true}, {32, 96, true},
		{63, 1, true}, {64, 1, false}, {64, 63, false}, {64, 64, true}, {64, 96, true},
		{70, 1, false}, {70, 57, false}, {70, 58, true}, {95, 1, false}, {95, 32, false}, {95, 33, true},
		{96*1000 + 31, 1, true}, {96*1000 + 32, 31, false}, {96*1000 + 64, 63, false}, {96*1000 + 64, 64, true},
	} {
		p := goOn(t, with(func(s *api.State) { s.Now = x.from }))
		p.ok(0, tick(x.ticks))
		if x.closes {
			p.goneOut(x.from + x.ticks)
		} else {
			p.stayed(x.from + x.ticks)
		}
	}
}

// TestTickAtTheEnd: 2 to the power of 40 is 64 behind a whole number of days.
func TestTickAtTheEnd(t *testing.T) {
	const end = 1 << 40
	for _, before := range []int64{0, 1, 5, 95, 96} {
		p := goOn(t, with(func(s *api.State) { s.Now, s.Doors = end-before, []int{63, 65} }))
		for _, n := range []int64{1, 5, 6, 95, 96} {
			if n > before {
				p.fails(api.ErrTick, tick(n))
			}
		}
		p.stayedAt(end-before, 63, 65)
		if before > 0 {
			p.ok(0, tick(before))
			p.fails(api.ErrTick, tick(1), tick(96))
			if p.s.Now != end {
				t.Error(p.s.Now)
			}
		}
	}
	// Of the last day's doors the tick 64 is passed, and none behind it.
	p := goOn(t, with(func(s *api.State) { s.Now = end - 1 }))
	p.fails(api.ErrTick, tick(2))
	p.ok(0, tick(1))
	p.goneOut(end)
	p = goOn(t, with(func(s *api.State) { s.Now, s.Doors = end-1, []int{63, 65} }))
	p.ok(0, tick(1))
	p.stayedAt(end, 63, 65)
	p.fails(api.ErrTick, tick(1))
}

func (p *play) stayedAt(at int64, doors ...int) {
	p.Helper()
	if !slices.Equal(p.s.Doors, doors) {
		p.Errorf("the doors are %v", p.s.Doors)
	}
	p.s.Doors = some().Doors
	p.stayed(at)
	p.s.Doors = doors
}

// TestTickEachDoor: each door alone closes once a day, at its own tick.
func TestTickEachDoor(t *testing.T) {
	for door := range 96 {
		s := many(3, api.Waiting)
		s.Doors = []int{door}
		for from := range int64(96) {
			s.Now = 960 + from
			p := goOn(t, s)
			p.ok(0, tick(1))
			if closed := p.s.Batches[0].Phase == api.Out; closed != (int(from+1)%96 == door) {
				t.Fatalf("door %d, tick %d: %v", door, from+1, closed)
			}
		}
	}
}

// TestTickWithNoneOpen: doors that close let nothing go out where nothing is open.
func TestTickWithNoneOpen(t *testing.T) {
	p := begin(t, caps(2, 100), caps(2, 100))
	p.ok(0, tick(96), shut(), tick(96))
	p.has("", "", "")
	if p.s.Now != 192 || p.s.NextKey != 1 {
		t.Error(show(p.s))
	}
	p = goOn(t, many(5, api.Picking))
	before := show(p.s)
	p.ok(0, shut())
	if show(p.s) != before {
		t.Error(show(p.s))
	}
	p.ok(0, tick(96))
	if showBatches(p.s) != showBatches(many(5, api.Picking)) || p.s.NextKey != 6 {
		t.Error(show(p.s))
	}
}

// TestClose: P17.4: all that is open goes out, and no time goes by; at once again nothing is left to go out.
func TestClose(t *testing.T) {
	if got := showBatches(some()); got != openOfSome {
		t.Fatal("the test is wrong:", got)
	}
	p := goOn(t, some())
	p.ok(0, shut())
	p.goneOut(70)
	p.ok(0, shut(), shut())
	p.goneOut(70)
}

// TestClosedToOthers: what went out is joined no more.
func TestClosedToOthers(t *testing.T) {
	p := begin(t, caps(9, 100), caps(9, 100))
	p.waiting(submit("a", 1))
	p.ok(0, shut())
	p.waiting(submit("b", 1))
	p.has("a picking #1, b waiting #2", "1 out wave: a 1, 2 open wave: b 1", "3 pick #1")
}

// TestMembersInOrder: what freezes goes on in its batch, whose members stay as they joined.
func TestMembersInOrder(t *testing.T) {
	p := begin(t, caps(9, 100), caps(9, 100))
	p.waiting(submit("c", 1), submit("a", 1), submit("d", 1), submit("b", 1))
	p.ok(0, shut())
	p.has("a picking #1, b picking #1, c picking #1, d picking #1", "1 out wave: c a d b 4", "9 pick #1")
	p.ok(api.Picking, cancel("a"), cancel("d"))
	p.ok(0, reply(9, true))
	p.has("a voiding!, b packed #2, c packed #2, d voiding!", "2 open manifest: c b 2", "10 void a, 11 void d")
}

func effects(l ...api.Effect) []api.Effect { return l }

// TestSend: P17.4: what is due is sent, and told as it is then.
func TestSend(t *testing.T) {
	p := goOn(t, some())
	a := p.do(send())
	want := effects(
		api.Effect{Key: 4, Kind: api.Reserve, Order: "f", Due: 71, Tries: 1},
		api.Effect{Key: 9, Kind: api.Authorise, Order: "g", Due: 74, Tries: 3},
		api.Effect{Key: 15, Kind: api.Void, Order: "j", Due: 134, Tries: 8},
		api.Effect{Key: 16, Kind: api.Release, Order: "k", Due: 71, Tries: 1},
		api.Effect{Key: 29, Kind: api.Transmit, Batch: 11, Due: 71, Tries: 1},
	)
	if a.Errno != api.OK || a.Phase != 0 || !slices.Equal(a.Effects, want) {
		t.Errorf("%v, want %v", a, want)
	}
	then := "3 pick #3 @71+1, 4 reserve f @71+1, 7 transmit #8 @99+5, 9 authorise g @74+3, 10 capture h @1099511627776+1000000, 15 void j @134+8, 16 release k @71+1, 29 transmit #11 @71+1"
	if showEffects(p.s) != then || p.s.NextKey != 30 || p.s.Now != 70 {
		t.Error(show(p.s))
	}
	p.ok(0, send(), send())
	p.has(showOrders(some()), openOfSome, then)
	p.ok(0, tick(1))
	if a := p.do(send()); len(a.Effects) != 4 || a.Effects[0] != (api.Effect{Key: 3, Kind: api.Pick, Batch: 3, Due: 73, Tries: 2}) || a.Effects[3] != (api.Effect{Key: 29, Kind: api.Transmit, Batch: 11, Due: 73, Tries: 2}) {
		t.Error(a)
	}
}

// TestSendAgainAndAgain: sent at each tick, one effect is due again behind 1, 2, 4 and so on, up to 64 ticks.
func TestSendAgainAndAgain(t *testing.T) {
	p := begin(t, caps(2, 100), caps(2, 100))
	p.ok(api.Reserving, submit("a", 1))
	var at []int64
	for range 400 {
		a := p.do(send())
		if len(a.Effects) > 0 {
			at = append(at, p.s.Now)
			if e := a.Effects[0]; len(a.Effects) != 1 || e.Tries != len(at) || e != p.s.Effects[0] || e.Due <= p.s.Now {
				t.Fatal(a)
			}
		}
		p.ok(0, tick(1))
	}
	if want := []int64{0, 1, 3, 7, 15, 31, 63, 127, 191, 255, 319, 383}; !slices.Equal(at, want) {
		t.Errorf("sent at %v, want %v", at, want)
	}
}

// TestSendAtTheEnd: at the last tick all is due again at once; tries stay at the most.
func TestSendAtTheEnd(t *testing.T) {
	p := goOn(t, with(func(s *api.State) { s.Now, s.Doors = 1<<40-3, []int{10} }))
	a := p.do(send())
	if len(a.Effects) != 7 || a.Effects[2] != (api.Effect{Key: 7, Kind: api.Transmit, Batch: 8, Due: 1 << 40, Tries: 6}) || a.Effects[1].Due != 1<<40-2 {
		t.Error(a)
	}
	p.ok(0, tick(3))
	for range 3 {
		a = p.do(send())
		if len(a.Effects) != 8 || a.Effects[4] != (api.Effect{Key: 10, Kind: api.Capture, Order: "h", Due: 1 << 40, Tries: 1000000}) {
			t.Fatal(a)
		}
	}
}

// TestSendNone: where nothing is asked for, nothing is told.
func TestSendNone(t *testing.T) {
	begin(t, caps(2, 100), caps(2, 100)).ok(0, send())
	goOn(t, many(400, api.Waiting)).ok(0, send())
	p := goOn(t, many(400, api.Picking))
	if a := p.do(send()); len(a.Effects) != 400 || a.Effects[0].Batch != 1 || a.Effects[399].Batch != 400 {
		t.Error(len(a.Effects))
	}
	p.ok(0, send())
}
