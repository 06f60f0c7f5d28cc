package desk

import (
	"cmp"
	"maps"
	"slices"

	"packhorse/api"
	"packhorse/saga"
	"packhorse/snap"
)

// teller tells the chapter's words once more, with all that there is in maps.
type teller struct {
	rest    api.State // but for the lists
	orders  map[string]*api.Order
	batches map[int64]*api.Batch
	effects map[int64]*api.Effect
}

// tell tells what Do must, of a state that is right.
func tell(s api.State, c api.Command) (api.State, api.Answer) {
	w := &teller{rest: s, orders: map[string]*api.Order{}, batches: map[int64]*api.Batch{}, effects: map[int64]*api.Effect{}}
	for _, o := range s.Orders {
		w.orders[o.Id] = &o
	}
	for _, b := range s.Batches {
		b.Members = slices.Clone(b.Members)
		w.batches[b.Id] = &b
	}
	for _, e := range s.Effects {
		w.effects[e.Key] = &e
	}
	a := w.answer(c)
	if a.Errno != 0 {
		return s, api.Answer{Errno: a.Errno}
	}
	next := w.rest
	next.Orders, next.Batches, next.Effects = rising(w.orders), rising(w.batches), rising(w.effects)
	return next, a
}

func rising[K cmp.Ordered, V any](m map[K]*V) []V {
	var l []V
	for _, key := range slices.Sorted(maps.Keys(m)) {
		l = append(l, *m[key])
	}
	return l
}

func (w *teller) answer(c api.Command) api.Answer {
	if !snap.Right(c) {
		return api.Answer{Errno: 175}
	}
	if c.Kind != 8 && (w.rest.NextKey > 999999999000 || w.rest.NextBatch > 999999999000) {
		return api.Answer{Errno: 173}
	}
	o := w.orders[c.Id]
	if o == nil && (c.Kind == 2 || c.Kind == 3 || c.Kind == 8) {
		return api.Answer{Errno: 171}
	}
	switch c.Kind {
	case 1:
		if o != nil {
			return api.Answer{Errno: 172}
		}
		if len(w.orders) >= 400 {
			return api.Answer{Errno: 173}
		}
		w.orders[c.Id] = &api.Order{Id: c.Id, Lines: c.Lines, Group: c.Group, Total: c.Total, Saga: api.Saga{Phase: 1}}
		w.ask(1, 0, c.Id)
		return api.Answer{Phase: 1}
	case 2:
		if _, _, errno := saga.Step(o.Saga, 3, w.rest.Limit); errno != 0 {
			return api.Answer{Errno: errno}
		}
		w.leave(o)
		w.step(o, 3)
	case 3:
		if o.Saga.Given || o.Saga.Phase > 3 {
			return api.Answer{Errno: 141}
		}
		o.Group = c.Group
		if o.Saga.Phase == 3 {
			w.leave(o)
			w.join(o, 1, w.rest.Waves)
		}
	case 4:
		return w.tick(c.Number)
	case 5:
		return w.reply(c.Number, c.Yes)
	case 6:
		w.allOut()
		return api.Answer{}
	case 7:
		return w.send()
	}
	return api.Answer{Phase: o.Saga.Phase}
}

func (w *teller) ask(kind int, batch int64, order string) {
	w.effects[w.rest.NextKey] = &api.Effect{Key: w.rest.NextKey, Kind: kind, Batch: batch, Order: order, Due: w.rest.Now}
	w.rest.NextKey++
}

func (w *teller) step(o *api.Order, event int) {
	next, kind, _ := saga.Step(o.Saga, event, w.rest.Limit)
	o.Saga = next
	if kind > 0 {
		w.ask(kind, 0, o.Id)
	}
}

func weightOf(o *api.Order) int64 {
	var all int64
	for _, line := range o.Lines {
		for range line.Qty {
			all += line.Weight
		}
	}
	return all
}

func (w *teller) join(o *api.Order, kind int, caps api.Caps) {
	var last *api.Batch
	for _, b := range w.batches {
		if b.Kind == kind && b.Phase == 1 && b.Group == o.Group && (last == nil || last.Id < b.Id) {
			last = b
		}
	}
	if last != nil && (len(last.Members) >= caps.Count || last.Weight+weightOf(o) > caps.Weight) {
		w.goOut(last)
		last = nil
	}
	if last == nil {
		last = &api.Batch{Id: w.rest.NextBatch, Kind: kind, Phase: 1, Group: o.Group, Born: w.rest.Now}
		w.batches[last.Id] = last
		w.rest.NextBatch++
	}
	last.Members = append(last.Members, o.Id)
	last.Weight += weightOf(o)
	o.Batch = last.Id
	if len(last.Members) >= caps.Count || last.Weight >= caps.Weight {
		w.goOut(last)
	}
}

func (w *teller) goOut(b *api.Batch) {
	b.Phase = 2
	for _, id := range b.Members {
		w.step(w.orders[id], 4)
	}
	w.ask(map[int]int{1: 3, 2: 4}[b.Kind], b.Id, "")
}

func (w *teller) allOut() {
	for _, id := range slices.Sorted(maps.Keys(w.batches)) {
		if w.batches[id].Phase == 1 {
			w.goOut(w.batches[id])
		}
	}
}

func (w *teller) leave(o *api.Order) {
	b := w.batches[o.Batch]
	if b == nil || b.Phase != 1 {
		return
	}
	b.Members = slices.DeleteFunc(b.Members, func(id string) bool { return id == o.Id })
	b.Weight -= weightOf(o)
	o.Batch = 0
	if len(b.Members) == 0 {
		delete(w.batches, b.Id)
	}
}

func (w *teller) tick(n int64) api.Answer {
	if w.rest.Now+n > 1<<40 {
		return api.Answer{Errno: 174}
	}
	closes := false
	for range n {
		w.rest.Now++
		closes = closes || slices.Contains(w.rest.Doors, int(w.rest.Now%96))
	}
	if closes {
		w.allOut()
	}
	return api.Answer{}
}

func (w *teller) send() api.Answer {
	var a api.Answer
	for _, key := range slices.Sorted(maps.Keys(w.effects)) {
		e := w.effects[key]
		if e.Due > w.rest.Now {
			continue
		}
		wait := int64(1)
		for range min(e.Tries, 6) {
			wait *= 2
		}
		e.Due = min(w.rest.Now+wait, 1<<40)
		e.Tries = min(e.Tries+1, 1000000)
		a.Effects = append(a.Effects, *e)
	}
	return a
}

func (w *teller) reply(key int64, yes bool) api.Answer {
	e := w.effects[key]
	if e == nil {
		return api.Answer{Errno: 131}
	}
	delete(w.effects, key)
	event := 2
	if yes {
		event = 1
	}
	if o := w.orders[e.Order]; o != nil {
		w.step(o, event)
		if o.Saga.Phase == 3 {
			w.join(o, 1, w.rest.Waves)
		}
		return api.Answer{Phase: o.Saga.Phase}
	}
	b := w.batches[e.Batch]
	delete(w.batches, e.Batch)
	if !yes && len(b.Members) > 1 {
		half := (len(b.Members) + 1) / 2
		w.part(b, b.Members[:half])
		w.part(b, b.Members[half:])
		return api.Answer{}
	}
	for _, id := range b.Members {
		o := w.orders[id]
		o.Batch = 0
		w.step(o, event)
		if o.Saga.Phase == 5 {
			w.join(o, 2, w.rest.Manifests)
		}
	}
	return api.Answer{}
}

func (w *teller) part(of *api.Batch, members []string) {
	b := &api.Batch{Id: w.rest.NextBatch, Kind: of.Kind, Phase: 2, Group: of.Group, Born: of.Born, Members: slices.Clone(members)}
	w.rest.NextBatch++
	for _, id := range members {
		w.orders[id].Batch = b.Id
		b.Weight += weightOf(w.orders[id])
	}
	w.batches[b.Id] = b
	w.ask(map[int]int{1: 3, 2: 4}[b.Kind], b.Id, "")
}
