package desk

import (
	"slices"
	"testing"

	"packhorse/api"
	"packhorse/order"
)

// TestSubmit: P17.3: a new order is as it was told, and Reserving; the others stay.
func TestSubmit(t *testing.T) {
	p := begin(t, caps(2, 100), caps(2, 100))
	p.ok(0, tick(9))
	c := api.Command{Kind: api.DoSubmit, Id: "m", Lines: []api.Line{{Sku: "x", Qty: 2, Weight: 3}, {Sku: "y", Qty: 4}}, Group: far(), Total: 1e12}
	p.ok(api.Reserving, c)
	want := api.Order{Id: "m", Lines: c.Lines, Group: far(), Total: 1e12, Saga: api.Saga{Phase: api.Reserving}}
	if len(p.s.Orders) != 1 || !order.Same(p.s.Orders[0], want) {
		t.Error(p.s.Orders)
	}
	p.ok(api.Reserving, submit("z", 1), submit("a", 1), submit("p", 1), submit("m-", 1), submit("β", 1), submit("α", 1))
	p.has("a reserving, m reserving s, m- reserving, p reserving, z reserving, α reserving, β reserving", "",
		"1 reserve m @9, 2 reserve z @9, 3 reserve a @9, 4 reserve p @9, 5 reserve m- @9, 6 reserve β @9, 7 reserve α @9")
	if !order.Same(p.s.Orders[1], want) || p.s.NextKey != 8 || p.s.NextBatch != 1 || p.s.Now != 9 {
		t.Error(show(p.s))
	}
}

// TestSubmitTwice: an order that there is already stays, in each phase, and whatever the second one is of.
func TestSubmitTwice(t *testing.T) {
	p := goOn(t, some())
	for _, o := range some().Orders {
		p.fails(api.ErrTwice, submit(o.Id, 5), submitFar(o.Id, 0))
	}
	p.ok(api.Reserving, submit("a-", 5), submit("a-3", 5), submit("d8", 5), submit("γ", 5))
	p.fails(api.ErrTwice, submit("a-", 5), submit("a-3", 5), submit("d8", 5), submit("γ", 5))
}

// TestSubmitMany: 400 orders are as many as there can be, whether they are over or not; ErrTwice comes ahead of that.
func TestSubmitMany(t *testing.T) {
	for _, phase := range []int{api.Reserving, api.Waiting, api.Shipped} {
		p := goOn(t, many(399, phase))
		p.ok(api.Reserving, submit("a", 5))
		if len(p.s.Orders) != 400 || p.s.Orders[0].Id != "a" {
			t.Fatal(len(p.s.Orders))
		}
		p.fails(api.ErrMany, submit("b", 5), submit("z", 5), submit("o000200-", 5))
		p.fails(api.ErrTwice, submit("a", 5), submit(name(0), 5), submit(name(398), 5))
	}
}

// TestAsk: each phase is told, and nothing becomes of it.
func TestAsk(t *testing.T) {
	p := goOn(t, some())
	seen := 0
	for _, o := range some().Orders {
		p.ok(o.Saga.Phase, ask(o.Id))
		seen |= 1 << o.Saga.Phase
	}
	if seen != 1<<13-2 {
		t.Error("not of each phase: the test is wrong")
	}
	p.fails(api.ErrUnknown, ask("zz"), ask("a"), ask("a-"), ask("a-3"), ask("αα"))
	if show(p.s) != show(some()) {
		t.Error(show(p.s))
	}
}

// TestUnknown: of an order that there isn't nothing can be done.
func TestUnknown(t *testing.T) {
	first := begin(t, caps(2, 100), caps(2, 100))
	for _, p := range []*play{first, goOn(t, some()), goOn(t, many(400, api.Waiting))} {
		for _, id := range []string{"a", "a-", "a-0", "dd", "zz", "ω"} {
			p.fails(api.ErrUnknown, ask(id), cancel(id), amend(id, near()), amend(id, far()))
		}
	}
}

// TestCancel: P17.3: of an order in each phase.
func TestCancel(t *testing.T) {
	const effects = "3 pick #3 @71+1, 4 reserve f, 7 transmit #8 @99+5, 9 authorise g @70+2, 10 capture h @1099511627776+1000000, 15 void j @69+7, 16 release k, 29 transmit #11"
	for _, x := range []struct {
		id             string
		errno          api.Errno
		phase          int
		given          bool
		batch          int64
		effect, member string // what is asked for then; the members of the batch that it was in
	}{
		{id: "f", phase: api.Reserving, given: true},
		{id: "g", phase: api.Authorising, given: true},
		{id: "a-1", phase: api.Voiding, given: true, effect: ", 30 void a-1 @70", member: "2 open wave: a-2 21 @40"},
		{id: "a-2", phase: api.Voiding, given: true, effect: ", 30 void a-2 @70", member: "2 open wave: a-1 11 @40"},
		{id: "β", phase: api.Voiding, given: true, effect: ", 30 void β @70"},
		{id: "e", phase: api.Voiding, given: true, effect: ", 30 void e @70"},
		{id: "b", phase: api.Picking, given: true, batch: 3, member: "3 out wave: b b0 72 @41"},
		{id: "c", phase: api.Voiding, given: true, effect: ", 30 void c @70", member: "5 open manifest: c- 61 @42"},
		{id: "n", phase: api.Voiding, given: true, effect: ", 30 void n @70"},
		{id: "d", errno: api.ErrLate, phase: api.Sending, batch: 8, member: "8 out manifest: d9 d 152 @43"},
		{id: "h", errno: api.ErrLate, phase: api.Capturing},
		{id: "i", errno: api.ErrLate, phase: api.Shipped},
		{id: "j", phase: api.Voiding},
		{id: "k", phase: api.Releasing},
		{id: "l", phase: api.Compensated},
		{id: "m", errno: api.ErrLate, phase: api.Stuck},
	} {
		was := some()
		p := goOn(t, some())
		a := p.do(cancel(x.id))
		answered := 0
		if x.errno == api.OK {
			answered = x.phase
		}
		o := orderAt(&p.s, x.id)
		if a.Errno != x.errno || a.Phase != answered || len(a.Effects) != 0 || o.Saga != (api.Saga{Phase: x.phase, Given: x.given}) || o.Batch != x.batch {
			t.Errorf("%s: answered %v, then %v", x.id, a, *o)
		}
		if got := showEffects(p.s); got != effects+x.effect {
			t.Errorf("%s: %s", x.id, got)
		}
		in := orderAt(&was, x.id).Batch
		at := slices.IndexFunc(p.s.Batches, func(b api.Batch) bool { return b.Id == in })
		if x.member == "" && (at >= 0 || len(p.s.Batches) != len(was.Batches)-min(int(in), 1)) {
			t.Errorf("%s: %s", x.id, showBatches(p.s))
		}
		if x.member != "" && (at < 0 || showBatches(api.State{Batches: p.s.Batches[at : at+1]}) != x.member || len(p.s.Batches) != len(was.Batches)) {
			t.Errorf("%s: %s", x.id, showBatches(p.s))
		}
		// Once more, it is answered in the same way, and nothing becomes of it.
		before := show(p.s)
		if b := p.do(cancel(x.id)); b.Errno != a.Errno || b.Phase != a.Phase || show(p.s) != before {
			t.Errorf("%s, twice: %v", x.id, b)
		}
	}
}

// TestCancelGiven: one that is to be given up already.
func TestCancelGiven(t *testing.T) {
	for phase := api.Reserving; phase <= api.Stuck; phase++ {
		s := many(3, phase)
		s.Orders[1].Saga.Given = true
		p := goOn(t, s)
		a := p.do(cancel(name(1)))
		if late := phase >= api.Sending && phase <= api.Shipped || phase == api.Stuck; (a.Errno == api.ErrLate) != late || a.Errno == api.OK && !p.s.Orders[1].Saga.Given {
			t.Errorf("%s: %v", order.Phase(phase), a)
		}
	}
}

// TestCancelledGoesBack: what becomes of who is cancelled, at each answer.
func TestCancelledGoesBack(t *testing.T) {
	p := begin(t, caps(2, 100), caps(2, 100))
	p.ok(api.Reserving, submit("a", 1), cancel("a"))
	p.ok(api.Releasing, reply(1, true))
	p.has("a releasing!", "", "2 release a")
	p.ok(api.Compensated, reply(2, true))
	p.ok(api.Reserving, submit("b", 1), cancel("b"))
	p.ok(api.Compensated, reply(3, false))
	p.ok(api.Reserving, submit("c", 1))
	p.ok(api.Authorising, reply(4, true), cancel("c"))
	p.ok(api.Voiding, reply(5, true))
	p.ok(api.Voiding, reply(6, false))
	p.ok(api.Releasing, reply(7, true))
	p.ok(api.Releasing, reply(8, false))
	p.ok(api.Stuck, reply(9, false))
	p.has("a compensated!, b compensated!, c stuck!~2", "", "")
	p.fails(api.ErrLate, cancel("c"))
	p.ok(api.Compensated, cancel("b"))
}

// TestAmend: P17.3: of an order in each phase.
func TestAmend(t *testing.T) {
	p := goOn(t, some())
	before := showEffects(p.s)
	p.ok(api.Reserving, amend("f", far()))
	p.ok(api.Authorising, amend("g", near()), amend("g", near()))
	if orderAt(&p.s, "f").Group != far() || orderAt(&p.s, "g").Group != near() || showEffects(p.s) != before || showBatches(p.s) != showBatches(some()) || p.s.NextBatch != 12 {
		t.Error(show(p.s))
	}
	for _, o := range some().Orders {
		if o.Saga.Phase > api.Waiting {
			p.fails(api.ErrLate, amend(o.Id, far()), amend(o.Id, near()))
		}
	}
	for phase := api.Reserving; phase <= api.Stuck; phase++ {
		s := many(3, phase)
		s.Orders[1].Saga.Given = true
		p := goOn(t, s)
		p.fails(api.ErrLate, amend(name(1), far()), amend(name(1), near()))
	}
}

// TestAmendGoesByIt: who was put into another group joins the wave of that.
func TestAmendGoesByIt(t *testing.T) {
	p := begin(t, caps(2, 100), caps(2, 100))
	p.ok(api.Reserving, submit("a", 1), amend("a", far()))
	p.ok(api.Authorising, reply(1, true))
	p.waiting(submitFar("b", 1))
	p.has("a picking #1 s, b picking #1 s", "1 out wave: a b 2 s", "5 pick #1")
}

// TestAmendWaiting: who waits leaves its wave, and joins the waves anew, also those of the same group.
func TestAmendWaiting(t *testing.T) {
	for _, x := range []struct {
		waits  []api.Command
		amend  api.Command
		phase  int
		orders string
		waves  string
		asked  string
	}{
		{[]api.Command{submit("a", 1)}, amend("a", far()), api.Waiting, "a waiting #2 s", "2 open wave: a 1 s", ""},
		{[]api.Command{submit("a", 1)}, amend("a", near()), api.Waiting, "a waiting #2", "2 open wave: a 1", ""},
		{[]api.Command{submit("a", 1), submit("b", 2)}, amend("a", far()), api.Waiting, "a waiting #2 s, b waiting #1", "1 open wave: b 2, 2 open wave: a 1 s", ""},
		{[]api.Command{submit("a", 1), submit("b", 2)}, amend("b", far()), api.Waiting, "a waiting #1, b waiting #2 s", "1 open wave: a 1, 2 open wave: b 2 s", ""},
		{[]api.Command{submit("a", 1), submit("b", 2)}, amend("a", near()), api.Waiting, "a waiting #1, b waiting #1", "1 open wave: b a 3", ""},
		{[]api.Command{submit("a", 1), submit("b", 2)}, amend("b", near()), api.Waiting, "a waiting #1, b waiting #1", "1 open wave: a b 3", ""},
		{[]api.Command{submit("a", 1), submitFar("b", 2)}, amend("a", far()), api.Waiting, "a waiting #2 s, b waiting #2 s", "2 open wave: b a 3 s", ""},
		{[]api.Command{submit("a", 1), submitFar("b", 2)}, amend("b", near()), api.Waiting, "a waiting #1, b waiting #1", "1 open wave: a b 3", ""},
		// Where it comes to, the wave gets full by it.
		{[]api.Command{submit("a", 1), submitFar("b", 2), submitFar("c", 3)}, amend("a", far()), api.Picking, "a picking #2 s, b picking #2 s, c picking #2 s", "2 out wave: b c a 6 s", "7 pick #2"},
		{[]api.Command{submit("a", 50), submitFar("b", 50)}, amend("a", far()), api.Picking, "a picking #2 s, b picking #2 s", "2 out wave: b a 100 s", "5 pick #2"},
		// There is no room for it: what was there goes out first.
		{[]api.Command{submit("a", 50), submitFar("b", 51)}, amend("a", far()), api.Waiting, "a waiting #3 s, b picking #2 s", "2 out wave: b 51 s, 3 open wave: a 50 s", "5 pick #2"},
	} {
		p := begin(t, caps(3, 100), caps(3, 100))
		p.waiting(x.waits...)
		p.ok(x.phase, x.amend)
		p.has(x.orders, x.waves, x.asked)
	}
}

// TestAmendOfTwo: of two open waves of its group, one of which it was in, the last one is joined.
func TestAmendOfTwo(t *testing.T) {
	p := goOn(t, some())
	p.ok(api.Waiting, amend("a-2", near()))
	if b := p.s.Batches; !slices.Equal(b[0].Members, []string{"a-1"}) || !slices.Equal(b[6].Members, []string{"β", "a-2"}) || orderAt(&p.s, "a-2").Batch != 10 || b[6].Weight != 212 {
		t.Error(showBatches(p.s))
	}
	p = goOn(t, some())
	p.ok(api.Picking, amend("β", near()))
	if b := p.s.Batches; !slices.Equal(b[0].Members, []string{"a-2", "a-1", "β"}) || b[0].Phase != api.Out || b[0].Weight != 223 || orderAt(&p.s, "β").Batch != 2 || len(b) != 7 {
		t.Error(showBatches(p.s))
	}
}
