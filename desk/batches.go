package desk

import (
	"cmp"
	"slices"

	"packhorse/api"
	"packhorse/batch"
	"packhorse/lines"
	"packhorse/state"
)

// join lays an order into the last open batch of that kind and of its group; into a new one, if there is none, or that has no room and goes out without it.
func (d *desk) join(o *api.Order, kind int) {
	at, there := d.lastHeld(kind, o.Group)
	if there && d.enter(at, o) == api.ErrFull {
		d.goOut(at)
		there = false
	}
	if !there {
		at = d.begin(kind, o.Group)
		d.enter(at, o)
	}
	if batch.Full(d.Batches[at], d.capsOf(kind)) {
		d.goOut(at)
	}
}

// enter lays an order into the batch that stands there; an error leaves both as they were.
func (d *desk) enter(at int, o *api.Order) api.Errno {
	b := &d.Batches[at]
	joined, errno := batch.Join(*b, d.capsOf(b.Kind), o.Id, lines.Weight(o.Lines))
	if errno == api.OK {
		*b, o.Batch = joined, joined.Id
	}
	return errno
}

// leave takes an order out of its batch, if that is open. Nobody keeps a batch that is left empty.
func (d *desk) leave(o *api.Order) {
	at, there := d.placeOfBatch(o.Batch)
	if !there {
		return
	}
	left, errno := batch.Evict(d.Batches[at], o.Id, lines.Weight(o.Lines))
	if errno != api.OK {
		return
	}
	d.Batches[at], o.Batch = left, 0
	if len(left.Members) == 0 {
		d.takeAway(at)
	}
}

// begin opens a new batch behind the others, and tells where it stands.
func (d *desk) begin(kind int, g api.Group) int {
	d.Batches = append(d.Batches, api.Batch{Id: d.nextBatch(), Kind: kind, Phase: api.Open, Group: g, Born: d.Now})
	return len(d.Batches) - 1
}

// goOut freezes the batch that stands there, and asks for it.
func (d *desk) goOut(at int) {
	b := &d.Batches[at]
	b.Phase = api.Out
	for _, o := range d.ordersOf(b.Members) {
		d.step(o, api.Freeze)
	}
	d.askForBatch(*b)
}

// closeAll lets all open batches go out.
func (d *desk) closeAll() api.Answer {
	for at, b := range d.Batches {
		if b.Phase == api.Open {
			d.goOut(at)
		}
	}
	return api.Answer{}
}

// part lays some members of a batch that isn't any more into one of their own, and asks for that.
func (d *desk) part(b api.Batch, members []string) {
	p := batch.Part(b, d.nextBatch(), members, state.Weight(d.State, members))
	d.Batches = append(d.Batches, p)
	for _, o := range d.ordersOf(members) {
		o.Batch = p.Id
	}
	d.askForBatch(p)
}

// nextBatch tells a number that no batch has had.
func (d *desk) nextBatch() int64 {
	id := d.NextBatch
	d.NextBatch++
	return id
}

// lastHeld tells where the last open batch of that kind and group stands, and whether there is one.
func (d *desk) lastHeld(kind int, g api.Group) (int, bool) {
	held := state.Held(d.State, kind, g)
	if len(held) == 0 {
		return 0, false
	}
	return d.placeOfBatch(held[len(held)-1])
}

// placeOfBatch tells where the batch of that id stands, and whether it is there.
func (d *desk) placeOfBatch(id int64) (int, bool) {
	return slices.BinarySearchFunc(d.Batches, id, func(b api.Batch, id int64) int {
		return cmp.Compare(b.Id, id)
	})
}

func (d *desk) takeAway(at int) {
	d.Batches = slices.Delete(d.Batches, at, at+1)
}

func (d *desk) capsOf(kind int) api.Caps {
	if kind == api.Manifest {
		return d.Manifests
	}
	return d.Waves
}
