package outbox

import (
	"packhorse/api"
	"packhorse/packet"
)

// mostBytes is how long a label may be: a sign has one byte or two.
const mostBytes = 2 * api.MaxLabel

// Put tells b, and behind it the outbox as bytes.
func Put(b []byte, l []api.Effect) []byte {
	// Each piece is written by itself and laid behind: written behind all that is there, it would be copied with all that each time.
	to := append([]byte(nil), b...)
	to = append(to, packet.Number(nil, uint64(len(l)))...)
	for _, e := range l {
		to = append(to, packet.Number(nil, uint64(e.Key), uint64(e.Kind), uint64(e.Tries), uint64(e.Due), uint64(e.Batch))...)
		to = append(to, packet.Text(nil, e.Order)...)
	}
	return to
}

// Take tells the outbox that stands next in r, as Put writes it; false, if there is none.
func Take(r *packet.Reader) ([]api.Effect, bool) {
	var l []api.Effect
	// No outbox has more effects, as their keys rise up to that.
	for range r.Number(api.MaxTally) {
		e := read(r)
		// Asked of each, as the bytes may say that there are far more than they hold; of the Reader too, as it tells noughts when it is bad, of which an effect that is cut off may look right.
		if r.Bad() || !canFollow(l, e) {
			return nil, false
		}
		l = append(l, e)
	}
	return l, !r.Bad()
}

func read(r *packet.Reader) api.Effect {
	var e api.Effect
	e.Key = int64(r.Number(api.MaxTally))
	e.Kind = int(r.Number(api.Release))
	e.Tries = int(r.Number(api.MaxTries))
	e.Due = int64(r.Number(api.MaxTick))
	e.Batch = int64(r.Number(api.MaxTally))
	e.Order = r.Text(mostBytes)
	return e
}
