package desk

import (
	"fmt"
	"math/rand"
	"slices"
	"testing"

	"packhorse/api"
	"packhorse/state"
)

// pick tells one of them.
func pick[T any](r *rand.Rand, l ...T) T { return l[r.Intn(len(l))] }

// someLabel is one of few, so that many are asked for again.
func someLabel(r *rand.Rand) string {
	return string(pick(r, []rune("abcdeα")...)) + pick(r, "", "", "-", "0", "1", "β", "bcdefghijklmnop")
}

func linesByChance(r *rand.Rand) []api.Line {
	skus := []string{pick(r, "a", "b", "c")}
	for range r.Intn(3) {
		skus = append(skus, someLabel(r))
	}
	slices.Sort(skus)
	var l []api.Line
	for _, sku := range slices.Compact(skus) {
		l = append(l, api.Line{Sku: sku, Qty: pick(r, 1, 2, 3, 1+r.Int63n(50)), Weight: pick(r, 0, 1, 5, r.Int63n(30))})
	}
	return l
}

func groupByChance(r *rand.Rand) api.Group {
	return pick(r, near(), near(), far(), api.Group{Carrier: "dhl", Zone: "n", Service: "fast"})
}

// commandByChance tells a command, mostly one that can be done in s.
func commandByChance(r *rand.Rand, s api.State) api.Command {
	id := someLabel(r)
	if len(s.Orders) > 0 && r.Intn(8) > 0 {
		id = pick(r, s.Orders...).Id
	}
	if at := r.Intn(len(s.Batches) + 4); at < len(s.Batches) {
		id = pick(r, s.Batches[at].Members...)
	}
	key := 1 + r.Int63n(s.NextKey+1)
	if len(s.Effects) > 0 && r.Intn(10) > 0 {
		key = pick(r, s.Effects...).Key
	}
	switch n := r.Intn(100); {
	case n < 22:
		return api.Command{Kind: api.DoSubmit, Id: someLabel(r), Lines: linesByChance(r), Group: groupByChance(r), Total: r.Int63n(1e12 + 1)}
	case n < 70:
		return reply(min(key, 1e12), r.Intn(6) > 0)
	case n < 76:
		return cancel(id)
	case n < 84:
		return amend(id, groupByChance(r))
	case n < 90:
		return tick(pick(r, 1, 2, 5, 1+r.Int63n(96)))
	case n < 92:
		return shut()
	case n < 96:
		return send()
	case n < 99:
		return ask(id)
	}
	return pick(r, api.Command{}, cancel("A"), tick(97), reply(0, true), api.Command{Kind: api.DoClose, Yes: true})
}

// seen is how many of each thing a walk has seen.
type seen map[string]int

func (k seen) look(c api.Command, a api.Answer) {
	k[fmt.Sprint("kind ", c.Kind, ", error ", int(a.Errno))]++
	if a.Errno == api.OK {
		k[fmt.Sprint("kind ", c.Kind, ", phase ", a.Phase)]++
	}
}

// TestWaysByChance: from the beginning on, each step held against the words, as all that a play does.
func TestWaysByChance(t *testing.T) {
	r := rand.New(rand.NewSource(17))
	k := seen{}
	for range 150 {
		p := begin(t, caps(1+r.Intn(4), 1+r.Int63n(300)), caps(1+r.Intn(4), 1+r.Int63n(300)))
		p.s.Limit = 1 + r.Intn(4)
		p.s.Doors = pick(r, []int{0}, []int{95}, []int{20, 40, 60, 80})
		for range 300 {
			c := commandByChance(r, p.s)
			k.look(c, p.do(c))
		}
		p.comesToItsEnd()
	}
	for _, what := range []string{
		"kind 0, error 175", "kind 1, error 0", "kind 1, error 172", "kind 2, error 0", "kind 2, error 141", "kind 2, error 171", "kind 2, error 175",
		"kind 2, phase 1", "kind 2, phase 2", "kind 2, phase 4", "kind 2, phase 9", "kind 2, phase 10", "kind 2, phase 11",
		"kind 3, error 0", "kind 3, error 141", "kind 3, error 171", "kind 3, phase 1", "kind 3, phase 2", "kind 3, phase 3", "kind 3, phase 4",
		"kind 4, error 0", "kind 4, error 175", "kind 5, error 0", "kind 5, error 131", "kind 5, error 175",
		"kind 5, phase 0", "kind 5, phase 2", "kind 5, phase 3", "kind 5, phase 4", "kind 5, phase 7", "kind 5, phase 8", "kind 5, phase 9", "kind 5, phase 10", "kind 5, phase 11", "kind 5, phase 12",
		"kind 6, error 0", "kind 6, error 175", "kind 7, error 0", "kind 8, error 0", "kind 8, error 171",
	} {
		if k[what] < 20 {
			t.Errorf("%s: only %d times", what, k[what])
		}
	}
}

// comesToItsEnd answers all with Yes till nothing more becomes of any order.
func (p *play) comesToItsEnd() {
	p.Helper()
	for range 20 {
		p.ok(0, shut())
		for _, e := range p.s.Effects {
			p.do(reply(e.Key, true))
		}
	}
	if !Idle(p.s) || len(p.s.Effects) > 0 || len(p.s.Batches) > 0 {
		p.Fatal("no end:", show(p.s))
	}
}

// stateByChance tells a state that is right, of n orders at most, also such as no desk comes to.
func stateByChance(r *rand.Rand, n int) api.State {
	weight := pick[int64](r, 100, 1000, 1e12)
	s, _ := state.New(caps(1+r.Intn(8), 1+r.Int63n(weight)), caps(1+r.Intn(8), 1+r.Int63n(weight)), 1+r.Intn(4), r.Intn(96), r.Intn(96))
	s.Now = pick(r, 0, 1<<40, 1<<40-r.Int63n(200), r.Int63n(1<<40))
	s.NextKey, s.NextBatch = pick[int64](r, 1, 1e12-3000), pick[int64](r, 1, 1e12-3000)
	var ids []string
	for range r.Intn(n + 1) {
		ids = append(ids, someLabel(r))
	}
	slices.Sort(ids)
	for _, id := range slices.Compact(ids) {
		saga := api.Saga{Phase: pick(r, 1+r.Intn(12), api.Waiting+r.Intn(4)), Given: r.Intn(4) == 0, Refusals: pick(r, 0, 1, 1000000)}
		s.Orders = append(s.Orders, api.Order{Id: id, Lines: linesByChance(r), Group: groupByChance(r), Total: r.Int63n(1e12), Saga: saga})
	}
	gather(r, &s, 1+r.Intn(8))
	askByChance(r, &s)
	return s
}

// gather lays orders of batched phases into batches of so many members at most, whatever the caps are.
func gather(r *rand.Rand, s *api.State, most int) {
	for _, i := range r.Perm(len(s.Orders)) {
		o := &s.Orders[i]
		if o.Saga.Phase < api.Waiting || o.Saga.Phase > api.Sending {
			continue
		}
		kind, phase := 1+(o.Saga.Phase-api.Waiting)/2, 1+(o.Saga.Phase-api.Waiting)%2
		at := slices.IndexFunc(s.Batches, func(b api.Batch) bool {
			return b.Kind == kind && b.Phase == phase && b.Group == o.Group && len(b.Members) < most && r.Intn(3) > 0
		})
		if at < 0 {
			at = len(s.Batches)
			s.Batches = append(s.Batches, api.Batch{Id: s.NextBatch, Born: r.Int63n(1<<40 + 1), Kind: kind, Phase: phase, Group: o.Group})
			s.NextBatch += 1 + r.Int63n(3)
		}
		o.Batch = s.Batches[at].Id
		s.Batches[at].Members = append(s.Batches[at].Members, o.Id)
		s.Batches[at].Weight += weightOf(o)
	}
}

// askByChance lays in the effects that the orders and batches need, in an order by chance.
func askByChance(r *rand.Rand, s *api.State) {
	var l []api.Effect
	for _, o := range s.Orders {
		if kind := asks[o.Saga.Phase]; kind != 0 {
			l = append(l, api.Effect{Kind: kind, Order: o.Id})
		}
	}
	for _, b := range s.Batches {
		if b.Phase == api.Out {
			l = append(l, api.Effect{Kind: map[int]int{api.Wave: api.Pick, api.Manifest: api.Transmit}[b.Kind], Batch: b.Id})
		}
	}
	r.Shuffle(len(l), func(i, j int) { l[i], l[j] = l[j], l[i] })
	for i := range l {
		due := max(0, s.Now+r.Int63n(5)-2)
		l[i].Key, l[i].Due, l[i].Tries = s.NextKey, min(due, 1<<40), pick(r, 0, 1, 6, 7, 999999, 1000000)
		s.NextKey += 1 + r.Int63n(3)
	}
	s.Effects = l
}

// TestStatesByChance: one command, or a few, at any state that is right, also such as no desk comes to from the beginning.
func TestStatesByChance(t *testing.T) {
	r := rand.New(rand.NewSource(171))
	k := seen{}
	for range 6000 {
		p := goOn(t, stateByChance(r, pick(r, 3, 8, 20, 60)))
		for range 1 + r.Intn(4) {
			c := commandByChance(r, p.s)
			k.look(c, p.do(c))
		}
	}
	for _, what := range []string{"kind 4, error 174", "kind 2, error 141", "kind 3, phase 3", "kind 3, phase 4", "kind 5, phase 12", "kind 6, error 0", "kind 7, error 0"} {
		if k[what] < 20 {
			t.Errorf("%s: only %d times", what, k[what])
		}
	}
}

// TestMemoryByChance: what is answered shares no memory with what was handed in, nor within itself.
func TestMemoryByChance(t *testing.T) {
	r := rand.New(rand.NewSource(172))
	for range 1500 {
		s := stateByChance(r, 20)
		c := commandByChance(r, s)
		next, a := Do(s, c)
		if a.Errno == api.OK && sharesMemory(s, c, next, a) {
			t.Fatalf("%v at %s: memory is shared", c, show(s))
		}
	}
}

// TestManyByChance: a desk as full as it can be.
func TestManyByChance(t *testing.T) {
	r := rand.New(rand.NewSource(173))
	for _, phase := range []int{api.Reserving, api.Authorising, api.Waiting} {
		s := many(398, phase)
		s.Waves, s.Manifests = caps(5, 1000), caps(7, 1000)
		p := goOn(t, s)
		for range 300 {
			p.do(commandByChance(r, p.s))
		}
		if len(p.s.Orders) != 400 {
			t.Error(len(p.s.Orders))
		}
		p.comesToItsEnd()
	}
}
