package desk

import (
	"slices"

	"packhorse/api"
	"packhorse/label"
	"packhorse/order"
	"packhorse/saga"
)

// submit takes up a new order.
func (d *desk) submit(c api.Command) api.Answer {
	at, there := d.placeOf(c.Id)
	if there {
		return api.Answer{Errno: api.ErrTwice}
	}
	if len(d.Orders) >= api.MaxOrders {
		return api.Answer{Errno: api.ErrMany}
	}
	begun := api.Order{Id: c.Id, Lines: c.Lines, Group: c.Group, Total: c.Total, Saga: api.Saga{Phase: api.Reserving}}
	// The command's lines stay its own.
	d.Orders = slices.Insert(d.Orders, at, order.Copy(begun))
	d.ask(api.Effect{Kind: saga.Asks(api.Reserving), Order: c.Id})
	return api.Answer{Phase: api.Reserving}
}

// phaseOf tells how far an order is.
func (d *desk) phaseOf(id string) api.Answer {
	o := d.orderOf(id)
	if o == nil {
		return api.Answer{Errno: api.ErrUnknown}
	}
	return api.Answer{Phase: o.Saga.Phase}
}

// cancel gives an order up.
func (d *desk) cancel(id string) api.Answer {
	o := d.orderOf(id)
	if o == nil {
		return api.Answer{Errno: api.ErrUnknown}
	}
	if errno := d.step(o, api.Cancel); errno != api.OK {
		return api.Answer{Errno: errno}
	}
	d.leave(o)
	return api.Answer{Phase: o.Saga.Phase}
}

// amend puts an order into another group, as long as it has not been frozen with others.
func (d *desk) amend(id string, g api.Group) api.Answer {
	o := d.orderOf(id)
	if o == nil {
		return api.Answer{Errno: api.ErrUnknown}
	}
	if o.Saga.Given || o.Saga.Phase > api.Waiting {
		return api.Answer{Errno: api.ErrLate}
	}
	o.Group = g
	if o.Saga.Phase == api.Waiting {
		d.leave(o)
		d.join(o, api.Wave)
	}
	return api.Answer{Phase: o.Saga.Phase}
}

// step takes an order on by an event, and asks for what it needs then.
func (d *desk) step(o *api.Order, event int) api.Errno {
	next, kind, errno := saga.Step(o.Saga, event, d.Limit)
	o.Saga = next
	if kind != 0 {
		d.ask(api.Effect{Kind: kind, Order: o.Id})
	}
	return errno
}

// placeOf tells where the order of that id stands, or would stand, and whether it is there.
func (d *desk) placeOf(id string) (int, bool) {
	return slices.BinarySearchFunc(d.Orders, id, func(o api.Order, id string) int {
		return label.Compare(o.Id, id)
	})
}

// orderOf tells the order of that id, where it stands on the desk; nil, if there is none.
func (d *desk) orderOf(id string) *api.Order {
	at, there := d.placeOf(id)
	if !there {
		return nil
	}
	return &d.Orders[at]
}

// ordersOf tells the orders of these ids, as orderOf does, without those that there aren't.
func (d *desk) ordersOf(ids []string) []*api.Order {
	var l []*api.Order
	for _, id := range ids {
		if o := d.orderOf(id); o != nil {
			l = append(l, o)
		}
	}
	return l
}
