package snap

import (
	"packhorse/api"
	"packhorse/batch"
	"packhorse/order"
	"packhorse/outbox"
	"packhorse/packet"
	"packhorse/state"
)

// State tells the state as bytes.
func State(s api.State) []byte {
	// Each piece is written by itself and laid behind: written behind all that is there, it would be copied with all that each time.
	b := packet.Number(nil, settings(s)...)
	b = append(b, packet.Number(nil, uint64(len(s.Orders)))...)
	for _, o := range s.Orders {
		b = append(b, order.Put(nil, o)...)
	}
	b = append(b, packet.Number(nil, uint64(len(s.Batches)))...)
	for _, x := range s.Batches {
		b = append(b, batch.Put(nil, x)...)
	}
	return append(b, outbox.Put(nil, s.Effects)...)
}

// Read tells the right state whose bytes b is; ErrSnap, if there is none.
func Read(b []byte) (api.State, api.Errno) {
	r := packet.New(b)
	s, ok := readState(r)
	// Asked at the end, as a Reader that is bad tells noughts, of which a state that is cut off may look right.
	if !ok || !r.Done() || !state.Right(s) {
		return api.State{}, api.ErrSnap
	}
	return s, api.OK
}

// settings are the numbers that stand ahead of a state's orders.
func settings(s api.State) []uint64 {
	l := []uint64{
		uint64(s.Waves.Count), uint64(s.Waves.Weight),
		uint64(s.Manifests.Count), uint64(s.Manifests.Weight),
		uint64(s.Limit),
		uint64(len(s.Doors)),
	}
	for _, door := range s.Doors {
		l = append(l, uint64(door))
	}
	return append(l, uint64(s.Now), uint64(s.NextBatch), uint64(s.NextKey))
}

// readState tells false, if an order, a batch or the effects can't be taken: what could be taken without them may look right.
func readState(r *packet.Reader) (api.State, bool) {
	next := r.Number
	s := readSettings(next)
	for range next(api.MaxOrders) {
		o, errno := order.Take(r)
		if errno != api.OK {
			return api.State{}, false
		}
		s.Orders = append(s.Orders, o)
	}
	// Each batch has an order that is in no other one, so that there are no more batches than orders.
	for range next(api.MaxOrders) {
		b, ok := batch.Take(r)
		if !ok {
			return api.State{}, false
		}
		s.Batches = append(s.Batches, b)
	}
	effects, ok := outbox.Take(r)
	s.Effects = effects
	return s, ok
}

// readSettings reads by what tells the next number, if it is at most so great.
func readSettings(next func(most uint64) uint64) api.State {
	var s api.State
	s.Waves = readCaps(next)
	s.Manifests = readCaps(next)
	s.Limit = int(next(api.MaxLimit))
	for range next(api.DayTicks) {
		s.Doors = append(s.Doors, int(next(api.DayTicks-1)))
	}
	s.Now = int64(next(api.MaxTick))
	s.NextBatch = int64(next(api.MaxTally))
	s.NextKey = int64(next(api.MaxTally))
	return s
}

func readCaps(next func(most uint64) uint64) api.Caps {
	var c api.Caps
	c.Count = int(next(api.MaxMembers))
	c.Weight = int64(next(api.MaxTally))
	return c
}
