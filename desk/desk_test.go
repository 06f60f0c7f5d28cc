package desk

import (
	"fmt"
	"math"
	"reflect"
	"slices"
	"strings"
	"testing"

	"packhorse/api"
	"packhorse/order"
	"packhorse/state"
)

func near() api.Group { return api.Group{Carrier: "ups", Zone: "n", Service: "fast"} }

func far() api.Group { return api.Group{Carrier: "ups", Zone: "s", Service: "fast"} }

// made is an order with some lines, which weigh 10 times qty and one more.
func made(id string, g api.Group, phase int, batch, qty int64) api.Order {
	return api.Order{Id: id, Lines: []api.Line{{Sku: "x", Qty: qty, Weight: 10}, {Sku: "y", Qty: 1, Weight: 1}}, Group: g, Total: 1999, Saga: api.Saga{Phase: phase}, Batch: batch}
}

// name is a label of its own for each i below 1000000, rising with it.
func name(i int) string { return fmt.Sprintf("o%06d", i) }

func submit(id string, weight int64) api.Command {
	return api.Command{Kind: api.DoSubmit, Id: id, Lines: []api.Line{{Sku: "x", Qty: 1, Weight: weight}}, Group: near(), Total: 5}
}

func submitFar(id string, weight int64) api.Command {
	c := submit(id, weight)
	c.Group = far()
	return c
}

func ask(id string) api.Command { return api.Command{Kind: api.DoAsk, Id: id} }

func cancel(id string) api.Command { return api.Command{Kind: api.DoCancel, Id: id} }

func amend(id string, g api.Group) api.Command {
	return api.Command{Kind: api.DoAmend, Id: id, Group: g}
}

func tick(n int64) api.Command { return api.Command{Kind: api.DoTick, Number: n} }

func reply(key int64, yes bool) api.Command {
	return api.Command{Kind: api.DoReply, Number: key, Yes: yes}
}

func shut() api.Command { return api.Command{Kind: api.DoClose} }

func send() api.Command { return api.Command{Kind: api.DoSend} }

// some is a right state with orders of each phase, batches of each kind and phase, two open waves of one group, and effects of each kind, in which no two lists share memory.
func some() api.State {
	return api.State{
		Waves:     api.Caps{Count: 3, Weight: 500},
		Manifests: api.Caps{Count: 4, Weight: 300},
		Limit:     4,
		Doors:     []int{32, 64},
		Now:       70,
		NextBatch: 12,
		NextKey:   30,
		Orders: []api.Order{
			made("a-1", near(), api.Waiting, 2, 1),
			made("a-2", near(), api.Waiting, 2, 2),
			made("b", near(), api.Picking, 3, 3),
			made("b0", near(), api.Picking, 3, 4),
			made("c", near(), api.Packed, 5, 5),
			made("c-", near(), api.Packed, 5, 6),
			made("d", near(), api.Sending, 8, 7),
			made("d9", near(), api.Sending, 8, 8),
			made("e", far(), api.Waiting, 9, 9),
			made("f", near(), api.Reserving, 0, 10),
			made("g", far(), api.Authorising, 0, 11),
			made("h", near(), api.Capturing, 0, 12),
			made("i", near(), api.Shipped, 0, 13),
			made("j", near(), api.Voiding, 0, 14),
			made("k", far(), api.Releasing, 0, 15),
			made("l", near(), api.Compensated, 0, 16),
			made("m", near(), api.Stuck, 0, 17),
			made("n", far(), api.Packed, 7, 18),
			made("α", far(), api.Sending, 11, 18),
			made("β", near(), api.Waiting, 10, 19),
		},
		Batches: []api.Batch{
			{Id: 2, Weight: 32, Born: 40, Kind: api.Wave, Phase: api.Open, Group: near(), Members: []string{"a-2", "a-1"}},
			{Id: 3, Weight: 72, Born: 41, Kind: api.Wave, Phase: api.Out, Group: near(), Members: []string{"b", "b0"}},
			{Id: 5, Weight: 112, Born: 42, Kind: api.Manifest, Phase: api.Open, Group: near(), Members: []string{"c", "c-"}},
			{Id: 7, Weight: 181, Born: 42, Kind: api.Manifest, Phase: api.Open, Group: far(), Members: []string{"n"}},
			{Id: 8, Weight: 152, Born: 43, Kind: api.Manifest, Phase: api.Out, Group: near(), Members: []string{"d9", "d"}},
			{Id: 9, Weight: 91, Born: 44, Kind: api.Wave, Phase: api.Open, Group: far(), Members: []string{"e"}},
			{Id: 10, Weight: 191, Born: 45, Kind: api.Wave, Phase: api.Open, Group: near(), Members: []string{"β"}},
			{Id: 11, Weight: 181, Born: 46, Kind: api.Manifest, Phase: api.Out, Group: far(), Members: []string{"α"}},
		},
		Effects: []api.Effect{
			{Key: 3, Kind: api.Pick, Batch: 3, Due: 71, Tries: 1},
			{Key: 4, Kind: api.Reserve, Order: "f"},
			{Key: 7, Kind: api.Transmit, Batch: 8, Due: 99, Tries: 5},
			{Key: 9, Kind: api.Authorise, Order: "g", Due: 70, Tries: 2},
			{Key: 10, Kind: api.Capture, Order: "h", Due: 1 << 40, Tries: 1000000},
			{Key: 15, Kind: api.Void, Order: "j", Due: 69, Tries: 7},
			{Key: 16, Kind: api.Release, Order: "k"},
			{Key: 29, Kind: api.Transmit, Batch: 11},
		},
	}
}

// with is some state in which something is changed.
func with(change func(*api.State)) api.State {
	s := some()
	change(&s)
	return s
}

// orderAt tells where the one of that id stands, so that a change can name it.
func orderAt(s *api.State, id string) *api.Order {
	return &s.Orders[slices.IndexFunc(s.Orders, func(o api.Order) bool { return o.Id == id })]
}

// play is a desk that is told something, again and again.
type play struct {
	*testing.T
	s api.State
}

// begin is a play with nothing there yet, a limit of 2, and doors that close at 50 and 80.
func begin(t *testing.T, waves, manifests api.Caps) *play {
	t.Helper()
	s, errno := state.New(waves, manifests, 2, 50, 80)
	if errno != api.OK {
		t.Fatal(errno)
	}
	return &play{t, s}
}

func goOn(t *testing.T, s api.State) *play {
	t.Helper()
	if !state.Right(s) {
		t.Fatalf("not right, the test is wrong: %v", s)
	}
	return &play{t, s}
}

// do holds what Do tells against the words, against what is Right, and against what must stay.
func (p *play) do(c api.Command) api.Answer {
	p.Helper()
	before := state.Copy(p.s)
	next, a := Do(p.s, c)
	if !state.Same(p.s, before) {
		p.Fatalf("%v changed what was handed in", c)
	}
	if a.Errno != api.OK && (!state.Same(next, before) || a.Phase != 0 || len(a.Effects) > 0) {
		p.Fatalf("%v: beside the error %v the answer is %v, the state %s", c, a.Errno, a, show(next))
	}
	if a.Errno == api.OK && !state.Right(next) {
		p.Fatalf("%v: not right: %s", c, show(next))
	}
	wantState, want := tell(before, c)
	if a.Errno != want.Errno || a.Phase != want.Phase || !slices.Equal(a.Effects, want.Effects) {
		p.Fatalf("%v: answered %v, by the words %v", c, a, want)
	}
	if !state.Same(next, wantState) {
		p.Fatalf("%v:\n%s\nby the words\n%s", c, show(next), show(wantState))
	}
	p.s = next
	return a
}

// ok holds that it is answered with that phase, and nothing else.
func (p *play) ok(phase int, l ...api.Command) {
	p.Helper()
	for _, c := range l {
		if a := p.do(c); a.Errno != api.OK || a.Phase != phase || len(a.Effects) > 0 {
			p.Fatalf("%v: answered %v, want the phase %q", c, a, order.Phase(phase))
		}
	}
}

// fails holds that it is answered with that error; that nothing changes at an error do holds.
func (p *play) fails(errno api.Errno, l ...api.Command) {
	p.Helper()
	for _, c := range l {
		if a := p.do(c); a.Errno != errno {
			p.Fatalf("%v: answered %v, want the error %d", c, a, errno)
		}
	}
}

// has holds what there is: orders, batches, effects.
func (p *play) has(orders, batches, effects string) {
	p.Helper()
	if showOrders(p.s) != orders || showBatches(p.s) != batches || showEffects(p.s) != effects {
		p.Fatalf("\n%s\n%s\n%s, want\n%s\n%s\n%s", showOrders(p.s), showBatches(p.s), showEffects(p.s), orders, batches, effects)
	}
}

// told tells what was asked for of a kind, and not answered yet, that it was done, or wasn't.
func (p *play) told(kind int, yes bool) {
	p.Helper()
	for _, e := range p.s.Effects {
		if e.Kind == kind {
			if a := p.do(reply(e.Key, yes)); a.Errno != api.OK {
				p.Fatal(a)
			}
		}
	}
}

// waiting has these orders submitted, reserved and authorised, each before the next.
func (p *play) waiting(l ...api.Command) {
	p.Helper()
	for _, c := range l {
		p.ok(api.Reserving, c)
		p.told(api.Reserve, true)
		p.told(api.Authorise, true)
	}
}

// showOrders: each with its phase; the batch it is in; ! if it is to be given up; ~ and its refusals; the zone, if it isn't n.
func showOrders(s api.State) string {
	var l []string
	for _, o := range s.Orders {
		text := o.Id + " " + order.Phase(o.Saga.Phase)
		if o.Batch != 0 {
			text += fmt.Sprint(" #", o.Batch)
		}
		if o.Saga.Given {
			text += "!"
		}
		if o.Saga.Refusals != 0 {
			text += fmt.Sprint("~", o.Saga.Refusals)
		}
		if o.Group.Zone != "n" {
			text += " " + o.Group.Zone
		}
		l = append(l, text)
	}
	return strings.Join(l, ", ")
}

// showBatches: each with its kind, its phase, its members, its weight, the tick of its birth, if that isn't 0, and the zone, if it isn't n.
func showBatches(s api.State) string {
	var l []string
	for _, b := range s.Batches {
		text := fmt.Sprint(b.Id, " ", []string{"?", "open", "out"}[b.Phase], " ", []string{"?", "wave", "manifest"}[b.Kind], ": ", strings.Join(b.Members, " "), " ", b.Weight)
		if b.Born != 0 {
			text += fmt.Sprint(" @", b.Born)
		}
		if b.Group.Zone != "n" {
			text += " " + b.Group.Zone
		}
		l = append(l, text)
	}
	return strings.Join(l, ", ")
}

// showEffects: each with its kind, whose it is, when it is due, if that isn't 0, and its tries, if there are any.
func showEffects(s api.State) string {
	var l []string
	for _, e := range s.Effects {
		text := fmt.Sprint(e.Key, " ", []string{"?", "reserve", "authorise", "pick", "transmit", "capture", "void", "release"}[e.Kind], " ", e.Order)
		if e.Batch != 0 {
			text += fmt.Sprint("#", e.Batch)
		}
		if e.Due != 0 {
			text += fmt.Sprint(" @", e.Due)
		}
		if e.Tries != 0 {
			text += fmt.Sprint("+", e.Tries)
		}
		l = append(l, text)
	}
	return strings.Join(l, ", ")
}

func show(s api.State) string {
	return fmt.Sprintf("now %d, next batch %d, next key %d\n%s\n%s\n%s", s.Now, s.NextBatch, s.NextKey, showOrders(s), showBatches(s), showEffects(s))
}

func caps(count int, weight int64) api.Caps { return api.Caps{Count: count, Weight: weight} }

// TestExample: the chapter's own.
func TestExample(t *testing.T) {
	p := begin(t, caps(1, 100), caps(1, 100))
	p.ok(api.Reserving, submit("a", 10))
	p.has("a reserving", "", "1 reserve a")
	p.ok(api.Authorising, reply(1, true))
	p.has("a authorising", "", "2 authorise a")
	p.ok(api.Picking, reply(2, true))
	p.has("a picking #1", "1 out wave: a 10", "3 pick #1")
	if p.s.NextBatch != 2 || p.s.NextKey != 4 || p.s.Now != 0 {
		t.Error(show(p.s))
	}
}

// TestExampleToItsEnd: what becomes of the order behind that.
func TestExampleToItsEnd(t *testing.T) {
	p := begin(t, caps(1, 100), caps(1, 100))
	p.waiting(submit("a", 10))
	p.ok(0, tick(49), reply(3, true))
	p.has("a sending #2", "2 out manifest: a 10 @49", "4 transmit #2 @49")
	p.ok(0, reply(4, true))
	p.has("a capturing", "", "5 capture a @49")
	p.ok(api.Shipped, reply(5, true))
	p.has("a shipped", "", "")
	p.ok(api.Shipped, ask("a"))
	if !Idle(p.s) {
		t.Error("not idle")
	}
}

// wrongCommands are no commands, by their kind, each for one reason alone.
func wrongCommands() map[int][]api.Command {
	l := map[int][]api.Command{}
	rights := map[int]api.Command{1: submit("new", 5), 2: cancel("a-1"), 3: amend("a-1", far()), 4: tick(1), 5: reply(4, true), 6: shut(), 7: send(), 8: ask("a-1")}
	add := func(kind int, change func(*api.Command)) {
		c := rights[kind]
		c.Lines = slices.Clone(c.Lines)
		change(&c)
		l[kind] = append(l[kind], c)
	}
	for kind, c := range rights {
		if c.Id != "" {
			for _, id := range []string{"", "A", "a b", "9a", "abcdefghijklmnopq", "\xff"} {
				add(kind, func(c *api.Command) { c.Id = id })
			}
		} else {
			add(kind, func(c *api.Command) { c.Id = "a-1" })
		}
		if c.Group != (api.Group{}) {
			add(kind, func(c *api.Command) { c.Group.Carrier = "" })
			add(kind, func(c *api.Command) { c.Group.Zone = "Z" })
			add(kind, func(c *api.Command) { c.Group.Service = "-" })
		} else {
			add(kind, func(c *api.Command) { c.Group.Zone = "z" })
		}
		if kind != api.DoSubmit {
			add(kind, func(c *api.Command) { c.Total = 1 })
			add(kind, func(c *api.Command) { c.Lines = []api.Line{{Sku: "x", Qty: 1}} })
		}
		if kind != api.DoReply {
			add(kind, func(c *api.Command) { c.Yes = true })
		}
		if kind != api.DoReply && kind != api.DoTick {
			add(kind, func(c *api.Command) { c.Number = 1 })
		}
	}
	for _, n := range []int64{math.MinInt64, -1, 0, 97, 1<<32 + 1, math.MaxInt64} {
		add(api.DoTick, func(c *api.Command) { c.Number = n })
	}
	for _, n := range []int64{math.MinInt64, -1, 0, 1e12 + 1, math.MaxInt64} {
		add(api.DoReply, func(c *api.Command) { c.Number = n })
	}
	for _, n := range []int64{math.MinInt64, -1, 1e12 + 1, math.MaxInt64} {
		add(api.DoSubmit, func(c *api.Command) { c.Total = n })
	}
	for _, lines := range [][]api.Line{nil, {{Sku: "X", Qty: 1}}, {{Sku: "x"}}, {{Sku: "x", Qty: 1001}}, {{Sku: "x", Qty: 1, Weight: 100001}}, {{Sku: "x", Qty: 1}, {Sku: "x", Qty: 1}}, {{Sku: "y", Qty: 1}, {Sku: "x", Qty: 1}}} {
		add(api.DoSubmit, func(c *api.Command) { c.Lines = lines })
	}
	for _, kind := range []int{math.MinInt, -1, 0, 9, 1<<8 + 1, 1<<32 + 1, math.MaxInt} {
		l[kind] = []api.Command{{Kind: kind}, {Kind: kind, Id: "a-1"}}
	}
	return l
}

// full tells some state whose next numbers are these.
func full(nextKey, nextBatch int64) api.State {
	return with(func(s *api.State) { s.NextKey, s.NextBatch = nextKey, nextBatch })
}

// TestNoCommand: P17.1: ahead of all other errors, also where there are too many.
func TestNoCommand(t *testing.T) {
	first, _ := state.New(caps(2, 100), caps(2, 100), 2, 50)
	for _, s := range []api.State{first, some(), full(1e12, 1e12)} {
		p := goOn(t, s)
		for _, l := range wrongCommands() {
			p.fails(api.ErrCommand, l...)
		}
	}
}

// oneOfEach is a command of each kind at which something becomes of some state, but DoAsk.
func oneOfEach() []api.Command {
	return []api.Command{submit("new", 5), cancel("a-1"), amend("a-1", far()), tick(90), reply(4, true), shut(), send()}
}

// TestTooMany: P17.1: of all but DoAsk, ahead of what else is wrong.
func TestTooMany(t *testing.T) {
	const last = 1e12 - 1000
	for _, s := range []api.State{full(last, 12), full(30, last), full(last, last)} {
		for _, c := range oneOfEach() {
			p := goOn(t, s)
			if a := p.do(c); a.Errno != api.OK || state.Same(p.s, s) {
				t.Errorf("%v: answered %v", c, a)
			}
			goOn(t, s).ok(api.Waiting, ask("a-1"))
		}
	}
	others := []api.Command{submit("a-1", 5), cancel("zz"), cancel("d"), amend("zz", near()), amend("d", near()), tick(96), reply(999, true), reply(999, false)}
	for _, s := range []api.State{full(last+1, 12), full(30, last+1), full(last+1, last+1), full(1e12, last), full(last, 1e12)} {
		p := goOn(t, s)
		p.fails(api.ErrMany, oneOfEach()...)
		p.fails(api.ErrMany, others...)
		p.ok(api.Waiting, ask("a-1"))
		p.fails(api.ErrUnknown, ask("zz"))
		if !state.Same(p.s, s) {
			t.Error(show(p.s))
		}
	}
	late := full(last+1, 12)
	late.Now = 1 << 40
	goOn(t, late).fails(api.ErrMany, tick(1))
}

// TestLastNumbers: no command uses up more numbers than are left for it.
func TestLastNumbers(t *testing.T) {
	const last = 1e12 - 1000
	p := goOn(t, many(400, api.Waiting))
	p.s.NextKey, p.s.NextBatch = last, last
	p.ok(0, shut())
	if p.s.NextKey != last+400 || p.s.NextBatch != last || len(p.s.Effects) != 400 || p.s.Effects[399].Key != last+399 {
		t.Error("of 400 batches:", p.s.NextKey, p.s.NextBatch, len(p.s.Effects))
	}
	p = oneWave(t, 64)
	p.s.NextKey, p.s.NextBatch, p.s.Manifests.Count = last, last, 1
	p.ok(0, reply(1, true))
	if p.s.NextKey != last+64 || p.s.NextBatch != last+64 || len(p.s.Batches) != 64 {
		t.Error("of 64 members:", p.s.NextKey, p.s.NextBatch, len(p.s.Batches))
	}
	p.fails(api.ErrMany, shut())
}

// oneWave is a play with a wave of n members that is out, asked for by the key 1.
func oneWave(t *testing.T, n int) *play {
	t.Helper()
	s, _ := state.New(caps(64, 1e12), caps(64, 1e12), 2, 50)
	b := api.Batch{Id: 1, Kind: api.Wave, Phase: api.Out, Group: near()}
	for i := range n {
		s.Orders = append(s.Orders, made(name(i), near(), api.Picking, 1, 1))
		b.Members = append(b.Members, name(i))
		b.Weight += 11
	}
	s.Batches = []api.Batch{b}
	s.Effects = []api.Effect{{Key: 1, Kind: api.Pick, Batch: 1}}
	s.NextKey, s.NextBatch = 2, 2
	return goOn(t, s)
}

// asks tells what an order asks for by itself in each phase.
var asks = map[int]int{api.Reserving: api.Reserve, api.Authorising: api.Authorise, api.Capturing: api.Capture, api.Voiding: api.Void, api.Releasing: api.Release}

// many is a state of n orders, each in that phase, by itself or alone in its batch; it is right, if n is at most 400.
func many(n, phase int) api.State {
	s, _ := state.New(caps(64, 1e12), caps(64, 1e12), 1, 0)
	for i := range n {
		o := made(name(i), near(), phase, 0, 1)
		e := api.Effect{Key: s.NextKey, Kind: asks[phase], Order: o.Id}
		if api.Waiting <= phase && phase <= api.Sending {
			o.Batch = s.NextBatch
			e = api.Effect{Key: s.NextKey, Kind: map[int]int{api.Picking: api.Pick, api.Sending: api.Transmit}[phase], Batch: o.Batch}
			kind, out := 1+(phase-api.Waiting)/2, 1+(phase-api.Waiting)%2
			s.Batches = append(s.Batches, api.Batch{Id: o.Batch, Weight: 11, Kind: kind, Phase: out, Group: near(), Members: []string{o.Id}})
			s.NextBatch++
		}
		if e.Kind != 0 {
			s.Effects = append(s.Effects, e)
			s.NextKey++
		}
		s.Orders = append(s.Orders, o)
	}
	return s
}

// TestManyOfEachPhase: a desk of as many orders as there can be is told something of each kind.
func TestManyOfEachPhase(t *testing.T) {
	for phase := api.Reserving; phase <= api.Stuck; phase++ {
		s := many(400, phase)
		for _, c := range []api.Command{submit("new", 1), submit(name(200), 1), cancel(name(399)), amend(name(0), far()), tick(96), reply(400, true), reply(1, false), shut(), send(), ask(name(7))} {
			goOn(t, s).do(c)
		}
	}
}

// TestSteps: P17.1: what a step asks for has the next key, is due now, and was not tried.
func TestSteps(t *testing.T) {
	p := goOn(t, some())
	p.ok(api.Authorising, reply(4, true))
	p.ok(api.Releasing, reply(15, true))
	want := []api.Effect{{Key: 30, Kind: api.Authorise, Order: "f", Due: 70}, {Key: 31, Kind: api.Release, Order: "j", Due: 70}}
	if n := len(p.s.Effects); !slices.Equal(p.s.Effects[n-2:], want) || p.s.NextKey != 32 {
		t.Error(showEffects(p.s))
	}
}

// TestLimit: P17.1: a step goes by the state's own limit.
func TestLimit(t *testing.T) {
	for limit := 1; limit <= 100; limit++ {
		s := many(1, api.Voiding)
		s.Limit = limit
		p := goOn(t, s)
		for n := 1; n < limit; n++ {
			p.ok(api.Voiding, reply(int64(n), false))
		}
		p.ok(api.Stuck, reply(int64(limit), false))
		if o := p.s.Orders[0]; o.Saga.Refusals != limit || len(p.s.Effects) != 0 || p.s.NextKey != int64(limit)+1 {
			t.Fatal(limit, show(p.s))
		}
	}
}

// TestIdle: P17.6.
func TestIdle(t *testing.T) {
	over := map[int]bool{api.Shipped: true, api.Compensated: true, api.Stuck: true}
	if s, _ := state.New(caps(2, 100), caps(2, 100), 2, 50); !Idle(s) {
		t.Error("no orders: not idle")
	}
	for phase := api.Reserving; phase <= api.Stuck; phase++ {
		for _, n := range []int{1, 3, 400} {
			if s := many(n, phase); Idle(s) != over[phase] {
				t.Errorf("%d orders, each %s: %v", n, order.Phase(phase), Idle(s))
			}
		}
		for at := range 5 {
			s := many(5, phase)
			for i, end := range []int{api.Shipped, api.Compensated, api.Stuck, api.Shipped, api.Compensated} {
				if i != at {
					s.Orders[i].Saga.Phase, s.Orders[i].Batch = end, 0
				}
			}
			if Idle(s) != over[phase] {
				t.Errorf("one at %d that is %s: %v", at, order.Phase(phase), Idle(s))
			}
		}
	}
	if Idle(some()) {
		t.Error("some state is idle")
	}
}

// TestSameAgain: P2: the same arguments bring the same answer, whatever was asked between.
func TestSameAgain(t *testing.T) {
	for _, c := range commandsOfSome() {
		first, a := Do(some(), c)
		Do(many(400, api.Waiting), shut())
		second, b := Do(some(), c)
		if !state.Same(first, second) || !reflect.DeepEqual(a, b) {
			t.Errorf("%v: %v, then %v", c, a, b)
		}
	}
}

// TestEmptyLists: a list may be nil or empty.
func TestEmptyLists(t *testing.T) {
	s, _ := state.New(caps(2, 100), caps(2, 100), 2, 50)
	s.Orders, s.Batches, s.Effects = []api.Order{}, []api.Batch{}, []api.Effect{}
	c := send()
	c.Lines = []api.Line{}
	p := goOn(t, s)
	p.ok(0, c, shut(), tick(96))
	p.ok(api.Reserving, submit("a", 1))
	p.has("a reserving", "", "1 reserve a @96")
}
