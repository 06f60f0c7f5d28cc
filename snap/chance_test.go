package snap

import (
	"fmt"
	"math/rand"
	"slices"
	"testing"

	"packhorse/api"
	"packhorse/state"
)

// pick tells one of them.
func pick[T any](r *rand.Rand, l ...T) T { return l[r.Intn(len(l))] }

// someLabel is a label of few signs, so that many begin alike.
func someLabel(r *rand.Rand) string {
	text := []rune{pick(r, []rune("abzαω")...)}
	for range r.Intn(pick(r, 2, 4, 16)) {
		text = append(text, pick(r, []rune("ab0-αω")...))
	}
	return string(text)
}

func labelsByChance(r *rand.Rand, n int) []string {
	var l []string
	for range n {
		l = append(l, someLabel(r))
	}
	slices.Sort(l)
	return slices.Compact(l)
}

func linesByChance(r *rand.Rand) []api.Line {
	var l []api.Line
	for _, sku := range labelsByChance(r, 1+r.Intn(8)) {
		l = append(l, one(sku, pick(r, 1, 1000, 1+r.Int63n(1000)), pick(r, 0, 100000, r.Int63n(100001))))
	}
	return l
}

// commandByChance tells a command that is RIGHT.
func commandByChance(r *rand.Rand) api.Command {
	g := api.Group{Carrier: someLabel(r), Zone: someLabel(r), Service: someLabel(r)}
	return []api.Command{
		{Kind: api.DoSubmit, Id: someLabel(r), Lines: linesByChance(r), Group: g, Total: tallyByChance(r)},
		{Kind: api.DoCancel, Id: someLabel(r)},
		{Kind: api.DoAmend, Id: someLabel(r), Group: g},
		{Kind: api.DoTick, Number: 1 + r.Int63n(96)},
		{Kind: api.DoReply, Number: max(1, tallyByChance(r)), Yes: r.Intn(2) == 1},
		{Kind: api.DoClose},
		{Kind: api.DoSend},
		{Kind: api.DoAsk, Id: someLabel(r)},
	}[r.Intn(8)]
}

// tallyByChance tells small and great numbers alike.
func tallyByChance(r *rand.Rand) int64 {
	return r.Int63n(1e12+1) >> r.Intn(41)
}

// stateByChance tells a state that is right, of n orders at most.
func stateByChance(r *rand.Rand, n int) api.State {
	caps := func() api.Caps { return api.Caps{Count: 1 + r.Intn(64), Weight: max(1, tallyByChance(r))} }
	s, _ := state.New(caps(), caps(), 1+r.Intn(100), r.Intn(96), r.Intn(96), r.Intn(96))
	s.Now = pick(r, 0, 1<<40, r.Int63n(1<<40))
	groups := []api.Group{{Carrier: someLabel(r), Zone: someLabel(r), Service: someLabel(r)}, near(), far()}
	for _, id := range labelsByChance(r, r.Intn(n+1)) {
		saga := api.Saga{Phase: pick(r, 1+r.Intn(12), api.Waiting+r.Intn(4)), Given: r.Intn(2) == 1, Refusals: pick(r, 0, r.Intn(1000001))}
		s.Orders = append(s.Orders, api.Order{Id: id, Lines: linesByChance(r), Group: pick(r, groups...), Total: tallyByChance(r), Saga: saga})
	}
	gather(r, &s, 1+r.Intn(64))
	ask(r, &s)
	return s
}

// gather lays orders of batched phases into batches of so many members at most.
func gather(r *rand.Rand, s *api.State, most int) {
	for _, i := range r.Perm(len(s.Orders)) {
		o := &s.Orders[i]
		if o.Saga.Phase < api.Waiting || o.Saga.Phase > api.Sending {
			continue
		}
		kind, phase := 1+(o.Saga.Phase-api.Waiting)/2, 1+(o.Saga.Phase-api.Waiting)%2
		at := slices.IndexFunc(s.Batches, func(b api.Batch) bool {
			return b.Kind == kind && b.Phase == phase && b.Group == o.Group && len(b.Members) < most && r.Intn(4) > 0
		})
		if at < 0 {
			at = len(s.Batches)
			s.Batches = append(s.Batches, api.Batch{Id: s.NextBatch, Born: r.Int63n(1<<40 + 1), Kind: kind, Phase: phase, Group: o.Group})
			s.NextBatch += 1 + r.Int63n(1e12/500)>>r.Intn(32)
		}
		o.Batch = s.Batches[at].Id
		s.Batches[at].Members = append(s.Batches[at].Members, o.Id)
		s.Batches[at].Weight += state.Weight(*s, []string{o.Id})
	}
}

// ask lays in the effects that the orders and batches need, in an order by chance.
func ask(r *rand.Rand, s *api.State) {
	var l []api.Effect
	kinds := map[int]int{api.Reserving: api.Reserve, api.Authorising: api.Authorise, api.Capturing: api.Capture, api.Voiding: api.Void, api.Releasing: api.Release}
	for _, o := range s.Orders {
		if kind := kinds[o.Saga.Phase]; kind != 0 {
			l = append(l, api.Effect{Kind: kind, Order: o.Id})
		}
	}
	for _, b := range s.Batches {
		if b.Phase == api.Out {
			l = append(l, api.Effect{Kind: map[int]int{api.Wave: api.Pick, api.Manifest: api.Transmit}[b.Kind], Batch: b.Id})
		}
	}
	r.Shuffle(len(l), func(i, j int) { l[i], l[j] = l[j], l[i] })
	for i := range l {
		l[i].Key, l[i].Due, l[i].Tries = s.NextKey, r.Int63n(1<<40+1)>>r.Intn(41), pick(r, 0, 1, r.Intn(1000001))
		s.NextKey += 1 + r.Int63n(1e12/1000)>>r.Intn(32)
	}
	s.Effects = l
}

func TestStatesThereAndBack(t *testing.T) {
	r := rand.New(rand.NewSource(162))
	for i := range 1500 {
		s := stateByChance(r, pick(r, 3, 10, 40, 400))
		if !state.Right(s) {
			t.Fatalf("state %d isn't right: the test is wrong", i)
		}
		holdsThereAndBack(t, fmt.Sprintf("state %d", i), s)
	}
}
