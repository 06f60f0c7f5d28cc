package state

import (
	"slices"

	"packhorse/api"
	"packhorse/batch"
	"packhorse/day"
	"packhorse/label"
	"packhorse/order"
	"packhorse/outbox"
	"packhorse/saga"
	"packhorse/tally"
)

// ask is what one asks the outside for: something of a kind, for a batch or for an order.
type ask struct {
	kind  int
	batch int64
	order string
}

// Right tells whether all in s can be, and hangs together: orders with the batches that they are in, and both with what is asked of the outside for them.
func Right(s api.State) bool {
	return batch.Caps(s.Waves) &&
		batch.Caps(s.Manifests) &&
		isLimit(s.Limit) &&
		areDoors(s.Doors) &&
		day.Right(s.Now) &&
		isNext(s.NextBatch) &&
		isNext(s.NextKey) &&
		areOrders(s.Orders) &&
		areBatches(s) &&
		areInTheirBatches(s) &&
		areEffects(s) &&
		isAskedFor(s)
}

func isLimit(n int) bool {
	return 1 <= n && n <= api.MaxLimit
}

// areDoors asks for no closings at all, which can't be told where there are no right doors.
func areDoors(l []int) bool {
	_, errno := day.Passed(l, 0, 0)
	return errno == api.OK
}

func isNext(n int64) bool {
	return n > 0 && tally.Right(n)
}

func areOrders(l []api.Order) bool {
	if len(l) > api.MaxOrders {
		return false
	}
	for i, o := range l {
		if !order.Right(o) || i > 0 && label.Compare(l[i-1].Id, o.Id) >= 0 {
			return false
		}
	}
	return true
}

// areBatches needs no bound of how many there are: no order is a member of two, so that it leaves off behind as many as there are orders.
func areBatches(s api.State) bool {
	for i, b := range s.Batches {
		if !isBatch(b) || b.Id >= s.NextBatch || i > 0 && s.Batches[i-1].Id >= b.Id {
			return false
		}
		if !areItsMembers(s, b) {
			return false
		}
	}
	return true
}

// isBatch tells whether a desk can have such a batch: one that is Done, or has no members, isn't kept.
func isBatch(b api.Batch) bool {
	return batch.Right(b) && (b.Phase == api.Open || b.Phase == api.Out) && len(b.Members) > 0
}

// areItsMembers tells whether the members of b are orders that are in it, as far as it is, and as heavy as it says.
func areItsMembers(s api.State, b api.Batch) bool {
	phase := phaseWithin(b)
	for _, id := range b.Members {
		o := find(s.Orders, id, orderId)
		if o == nil || o.Group != b.Group || o.Batch != b.Id || o.Saga.Phase != phase {
			return false
		}
	}
	return b.Weight == Weight(s, b.Members)
}

// phaseWithin tells the phase of an order that is in b.
func phaseWithin(b api.Batch) int {
	open, out := api.Waiting, api.Picking
	if b.Kind == api.Manifest {
		open, out = api.Packed, api.Sending
	}
	if b.Phase == api.Open {
		return open
	}
	return out
}

// areInTheirBatches tells whether each order that says so is in the batch that it says.
func areInTheirBatches(s api.State) bool {
	for _, o := range s.Orders {
		if o.Batch == 0 {
			continue
		}
		b := find(s.Batches, o.Batch, batchId)
		if b == nil || !slices.Contains(b.Members, o.Id) {
			return false
		}
	}
	return true
}

func areEffects(s api.State) bool {
	if !outbox.Right(s.Effects) {
		return false
	}
	// Keys rise, so that the last one is the greatest.
	last := len(s.Effects) - 1
	return last < 0 || s.Effects[last].Key < s.NextKey
}

// isAskedFor tells whether what the orders and batches need is asked for, each once, and nothing else is.
func isAskedFor(s api.State) bool {
	missing := needs(s)
	for _, e := range s.Effects {
		of := ask{kind: e.Kind, batch: e.Batch, order: e.Order}
		// Left off here, a long list of what nobody needs fills no map.
		if missing[of] == 0 {
			return false
		}
		missing[of]--
	}
	for _, n := range missing {
		if n > 0 {
			return false
		}
	}
	return true
}

// needs counts what must be asked for: by each order alone, as its phase is, and by each batch that is out.
func needs(s api.State) map[ask]int {
	count := map[ask]int{}
	for _, o := range s.Orders {
		if kind := saga.Asks(o.Saga.Phase); kind != 0 {
			count[ask{kind: kind, order: o.Id}]++
		}
	}
	for _, b := range s.Batches {
		if b.Phase == api.Out {
			count[ask{kind: goesBy(b.Kind), batch: b.Id}]++
		}
	}
	return count
}

// goesBy tells the kind of effect by which a batch of that kind goes on.
func goesBy(kind int) int {
	if kind == api.Manifest {
		return api.Transmit
	}
	return api.Pick
}
