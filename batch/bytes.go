package batch

import (
	"packhorse/api"
	"packhorse/packet"
)

// mostBytes is how long a label may be: a sign has one byte or two.
const mostBytes = 2 * api.MaxLabel

// Put tells out, and behind it the batch as bytes.
func Put(out []byte, b api.Batch) []byte {
	// Each piece is written by itself and laid behind: written behind all that is there, it would be copied with all that each time.
	to := append([]byte(nil), out...)
	to = append(to, packet.Number(nil, uint64(b.Id), uint64(b.Kind), uint64(b.Phase), uint64(b.Weight), uint64(b.Born))...)
	to = append(to, packet.Text(nil, b.Group.Carrier, b.Group.Zone, b.Group.Service)...)
	to = append(to, packet.Number(nil, uint64(len(b.Members)))...)
	return append(to, packet.Text(nil, b.Members...)...)
}

// Take tells the batch that is right and stands next in r, as Put writes it; false, if there is none.
func Take(r *packet.Reader) (api.Batch, bool) {
	b := read(r)
	// Asked at the end, as a Reader that is bad tells noughts, of which a batch that is cut off may look right.
	if r.Bad() || !Right(b) {
		return api.Batch{}, false
	}
	return b, true
}

func read(r *packet.Reader) api.Batch {
	var b api.Batch
	b.Id = int64(r.Number(api.MaxTally))
	b.Kind = int(r.Number(api.Manifest))
	b.Phase = int(r.Number(api.Done))
	b.Weight = int64(r.Number(api.MaxTally))
	b.Born = int64(r.Number(api.MaxTick))
	b.Group = readGroup(r)
	for range r.Number(api.MaxMembers) {
		b.Members = append(b.Members, r.Text(mostBytes))
	}
	return b
}

func readGroup(r *packet.Reader) api.Group {
	var g api.Group
	g.Carrier = r.Text(mostBytes)
	g.Zone = r.Text(mostBytes)
	g.Service = r.Text(mostBytes)
	return g
}
