package order

import (
	"packhorse/api"
	"packhorse/packet"
)

// mostBytes is how long a label may be: a sign has one byte or two.
const mostBytes = 2 * api.MaxLabel

// Put tells b, and behind it the order as bytes.
func Put(b []byte, o api.Order) []byte {
	// Each piece is written by itself and laid behind: written behind all that is there, it would be copied with all that each time.
	to := append([]byte(nil), b...)
	to = append(to, packet.Text(nil, o.Id)...)
	to = append(to, packet.Number(nil, uint64(len(o.Lines)))...)
	for _, line := range o.Lines {
		to = append(to, packet.Text(nil, line.Sku)...)
		to = append(to, packet.Number(nil, uint64(line.Qty), uint64(line.Weight))...)
	}
	to = append(to, packet.Text(nil, o.Group.Carrier, o.Group.Zone, o.Group.Service)...)
	return append(to, packet.Number(nil, numbers(o)...)...)
}

// Take tells the order that is right and stands next in r, as Put writes it; ErrOrder, if there is none.
func Take(r *packet.Reader) (api.Order, api.Errno) {
	o := read(r)
	// Asked at the end, as a Reader that is bad tells noughts, of which an order that is cut off may look right.
	if r.Bad() || !Right(o) {
		return api.Order{}, api.ErrOrder
	}
	return o, api.OK
}

// numbers are those that stand behind an order's texts.
func numbers(o api.Order) []uint64 {
	var given uint64
	if o.Saga.Given {
		given = 1
	}
	return []uint64{uint64(o.Total), uint64(o.Saga.Phase), given, uint64(o.Saga.Refusals), uint64(o.Batch)}
}

func read(r *packet.Reader) api.Order {
	var o api.Order
	o.Id = r.Text(mostBytes)
	for range r.Number(api.MaxLines) {
		o.Lines = append(o.Lines, readLine(r))
	}
	o.Group = readGroup(r)
	o.Total = int64(r.Number(api.MaxTally))
	o.Saga = readSaga(r)
	o.Batch = int64(r.Number(api.MaxTally))
	return o
}

func readLine(r *packet.Reader) api.Line {
	var line api.Line
	line.Sku = r.Text(mostBytes)
	line.Qty = int64(r.Number(api.MaxQty))
	line.Weight = int64(r.Number(api.MaxWeight))
	return line
}

func readGroup(r *packet.Reader) api.Group {
	var g api.Group
	g.Carrier = r.Text(mostBytes)
	g.Zone = r.Text(mostBytes)
	g.Service = r.Text(mostBytes)
	return g
}

func readSaga(r *packet.Reader) api.Saga {
	var s api.Saga
	s.Phase = int(r.Number(api.Stuck))
	s.Given = r.Number(1) == 1
	s.Refusals = int(r.Number(api.MaxTries))
	return s
}
