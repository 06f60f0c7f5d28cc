package desk

import (
	"packhorse/api"
	"packhorse/halves"
	"packhorse/outbox"
)

// ask asks the outside for something, by a key that was not used before.
func (d *desk) ask(e api.Effect) {
	e.Key, e.Due = d.NextKey, d.Now
	// The error needs no asking: the keys that were used before are all below the next one.
	d.Effects, _ = outbox.Add(d.Effects, e)
	d.NextKey++
}

// askForBatch asks for what takes a batch on that is out.
func (d *desk) askForBatch(b api.Batch) {
	kind := api.Pick
	if b.Kind == api.Manifest {
		kind = api.Transmit
	}
	d.ask(api.Effect{Kind: kind, Batch: b.Id})
}

// send tells all that is to be sent now, as it is once it was sent.
func (d *desk) send() api.Answer {
	var a api.Answer
	for _, e := range outbox.Due(d.Effects, d.Now) {
		d.Effects, _ = outbox.Sent(d.Effects, e.Key, d.Now)
		sent, _ := outbox.Find(d.Effects, e.Key)
		a.Effects = append(a.Effects, sent)
	}
	return a
}

// reply takes what the outside says to what was asked by that key.
func (d *desk) reply(key int64, event int) api.Answer {
	e, errno := outbox.Find(d.Effects, key)
	if errno != api.OK {
		return api.Answer{Errno: errno}
	}
	d.Effects, _ = outbox.Settle(d.Effects, key)
	if e.Batch != 0 {
		return d.replyToBatch(e.Batch, event)
	}
	return d.replyToOrder(e.Order, event)
}

// replyToOrder takes one order on.
func (d *desk) replyToOrder(id string, event int) api.Answer {
	o := d.orderOf(id)
	if o == nil {
		return api.Answer{}
	}
	d.step(o, event)
	if o.Saga.Phase == api.Waiting {
		d.join(o, api.Wave)
	}
	return api.Answer{Phase: o.Saga.Phase}
}

// replyToBatch takes a batch's members on; where some of them must be bad, both halves are tried instead.
func (d *desk) replyToBatch(id int64, event int) api.Answer {
	at, there := d.placeOfBatch(id)
	if !there {
		return api.Answer{}
	}
	b := d.Batches[at]
	d.takeAway(at)
	if event == api.No && len(b.Members) > 1 {
		first, second := halves.Split(b.Members)
		d.part(b, first)
		d.part(b, second)
		return api.Answer{}
	}
	for _, o := range d.ordersOf(b.Members) {
		o.Batch = 0
		d.step(o, event)
		if o.Saga.Phase == api.Packed {
			d.join(o, api.Manifest)
		}
	}
	return api.Answer{}
}

func eventOf(yes bool) int {
	if yes {
		return api.Yes
	}
	return api.No
}
