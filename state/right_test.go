package state

import (
	"fmt"
	"math"
	"regexp"
	"slices"
	"strings"
	"testing"

	"packhorse/api"
)

var labelByWords = regexp.MustCompile(`\A[a-zα-ω][a-zα-ω0-9-]{0,15}\z`)

func isLabel(s string) bool { return labelByWords.MatchString(s) }

func within(n, least, most int64) bool { return n >= least && n <= most }

// rightByWords goes by the chapter's own words, and by those of the layers that it names, one after the other.
func rightByWords(s api.State) bool {
	return settingsByWords(s) && ordersByWords(s.Orders) && batchesByWords(s) && membersByWords(s) && outboxByWords(s.Effects, s.NextKey) && asksAreByWords(s)
}

func settingsByWords(s api.State) bool {
	for _, c := range []api.Caps{s.Waves, s.Manifests} {
		if !within(int64(c.Count), 1, 64) || !within(c.Weight, 1, 1e12) {
			return false
		}
	}
	for i, n := range s.Doors {
		if n < 0 || n > 95 || slices.Max(append([]int{-1}, s.Doors[:i]...)) >= n {
			return false
		}
	}
	return len(s.Doors) > 0 && within(int64(s.Limit), 1, 100) && within(s.Now, 0, 1<<40) && within(s.NextBatch, 1, 1e12) && within(s.NextKey, 1, 1e12)
}

func linesByWords(l []api.Line) bool {
	for i, line := range l {
		if !isLabel(line.Sku) || !within(line.Qty, 1, 1000) || !within(line.Weight, 0, 100000) || i > 0 && l[i-1].Sku >= line.Sku {
			return false
		}
	}
	return within(int64(len(l)), 1, 8)
}

func orderByWords(o api.Order) bool {
	for _, s := range []string{o.Id, o.Group.Carrier, o.Group.Zone, o.Group.Service} {
		if !isLabel(s) {
			return false
		}
	}
	inABatch := slices.Contains([]int{api.Waiting, api.Picking, api.Packed, api.Sending}, o.Saga.Phase)
	return linesByWords(o.Lines) && within(o.Total, 0, 1e12) && within(int64(o.Saga.Phase), 1, 12) && within(int64(o.Saga.Refusals), 0, 1000000) && within(o.Batch, 0, 1e12) && inABatch == (o.Batch != 0)
}

func ordersByWords(l []api.Order) bool {
	for i, o := range l {
		if !orderByWords(o) || i > 0 && l[i-1].Id >= o.Id {
			return false
		}
	}
	return len(l) <= 400
}

func batchesByWords(s api.State) bool {
	for i, b := range s.Batches {
		seen := map[string]bool{}
		for _, id := range b.Members {
			if seen[id] || !isLabel(id) {
				return false
			}
			seen[id] = true
		}
		if !within(int64(len(seen)), 1, 64) || !within(b.Id, 1, 1e12) || !within(b.Weight, 0, 1e12) || !within(b.Born, 0, 1<<40) {
			return false
		}
		if b.Kind != api.Wave && b.Kind != api.Manifest || b.Phase != api.Open && b.Phase != api.Out {
			return false
		}
		if !isLabel(b.Group.Carrier) || !isLabel(b.Group.Zone) || !isLabel(b.Group.Service) || b.Id >= s.NextBatch || i > 0 && s.Batches[i-1].Id >= b.Id {
			return false
		}
	}
	return true
}

func weightByWords(l []api.Line) int64 {
	if !linesByWords(l) {
		return 0
	}
	var n int64
	for _, line := range l {
		for range line.Qty {
			n += line.Weight
		}
	}
	return n
}

// membersByWords asks each order and each batch for each other.
func membersByWords(s api.State) bool {
	phases := map[[2]int]int{{api.Wave, api.Open}: api.Waiting, {api.Wave, api.Out}: api.Picking, {api.Manifest, api.Open}: api.Packed, {api.Manifest, api.Out}: api.Sending}
	orders, homes := map[string]api.Order{}, map[string]int{}
	for _, o := range s.Orders {
		orders[o.Id] = o
	}
	for _, b := range s.Batches {
		var weight int64
		for _, id := range b.Members {
			o, there := orders[id]
			if !there || o.Group != b.Group || o.Batch != b.Id || o.Saga.Phase != phases[[2]int{b.Kind, b.Phase}] {
				return false
			}
			homes[id]++
			weight += weightByWords(o.Lines)
		}
		if weight != b.Weight {
			return false
		}
	}
	for _, o := range s.Orders {
		if o.Batch != 0 && homes[o.Id] != 1 {
			return false
		}
	}
	return true
}

func outboxByWords(l []api.Effect, nextKey int64) bool {
	for i, e := range l {
		ofBatch := e.Kind == api.Pick || e.Kind == api.Transmit
		if ofBatch && (!within(e.Batch, 1, 1e12) || e.Order != "") || !ofBatch && (e.Batch != 0 || !isLabel(e.Order)) {
			return false
		}
		if !within(int64(e.Kind), 1, 7) || !within(e.Key, 1, 1e12) || !within(e.Due, 0, 1<<40) || !within(int64(e.Tries), 0, 1000000) || e.Key >= nextKey || i > 0 && l[i-1].Key >= e.Key {
			return false
		}
	}
	return true
}

func asksByWords(phase int) int {
	return map[int]int{api.Reserving: api.Reserve, api.Authorising: api.Authorise, api.Capturing: api.Capture, api.Voiding: api.Void, api.Releasing: api.Release}[phase]
}

// asksAreByWords writes down who asks for what, and holds that against what is asked for.
func asksAreByWords(s api.State) bool {
	var needed, there []string
	for _, o := range s.Orders {
		if kind := asksByWords(o.Saga.Phase); kind != 0 {
			needed = append(needed, fmt.Sprint(kind, " of order ", o.Id))
		}
	}
	for _, b := range s.Batches {
		if b.Phase == api.Out {
			needed = append(needed, fmt.Sprint(map[int]int{api.Wave: api.Pick, api.Manifest: api.Transmit}[b.Kind], " of batch ", b.Id))
		}
	}
	for _, e := range s.Effects {
		if e.Kind == api.Pick || e.Kind == api.Transmit {
			there = append(there, fmt.Sprint(e.Kind, " of batch ", e.Batch))
		} else {
			there = append(there, fmt.Sprint(e.Kind, " of order ", e.Order))
		}
	}
	slices.Sort(needed)
	slices.Sort(there)
	return slices.Equal(needed, there)
}

// change is something that is done to some state.
type change struct {
	what   string
	change func(s *api.State)
}

// changes gathers them.
type changes []change

func (l *changes) add(does func(s *api.State), what ...any) {
	*l = append(*l, change{fmt.Sprint(what...), does})
}

// stillRight are changes behind which some state is right as before.
func stillRight() []change {
	var l changes
	l.add(func(s *api.State) {}, "nothing")
	for _, n := range []int{1, 2, 63, 64} {
		l.add(func(s *api.State) { s.Waves.Count = n }, "waves of ", n)
		l.add(func(s *api.State) { s.Manifests.Count = n }, "manifests of ", n)
	}
	for _, n := range []int64{1, 2, 1 << 32, 999999999999, 1000000000000} {
		l.add(func(s *api.State) { s.Waves.Weight = n }, "waves as heavy as ", n)
		l.add(func(s *api.State) { s.Manifests.Weight = n }, "manifests as heavy as ", n)
	}
	for n := 1; n <= 100; n++ {
		l.add(func(s *api.State) { s.Limit = n }, "limit ", n)
	}
	for _, doors := range [][]int{{0}, {95}, {0, 95}, {0, 1}, {94, 95}, {31, 32, 33}, upTo(96), upTo(95), upTo(96)[1:]} {
		l.add(func(s *api.State) { s.Doors = doors }, "doors ", doors)
	}
	for _, n := range []int64{0, 1, 95, 96, 1 << 32, 1<<40 - 1, 1 << 40} {
		l.add(func(s *api.State) { s.Now = n }, "now ", n)
		l.add(func(s *api.State) { s.Effects[3].Due = n }, "an effect's due ", n)
		l.add(func(s *api.State) { s.Batches[3].Born = n }, "a batch's birth ", n)
	}
	for _, n := range []int64{13, 1 << 32, 999999999999, 1000000000000} {
		l.add(func(s *api.State) { s.NextBatch = n }, "next batch ", n)
	}
	for _, n := range []int64{31, 1 << 32, 999999999999, 1000000000000} {
		l.add(func(s *api.State) { s.NextKey = n }, "next key ", n)
		l.add(func(s *api.State) { s.NextKey, s.Effects[7].Key = n, n-1 }, "the last key ", n-1)
		l.add(func(s *api.State) {
			s.NextBatch, s.Batches[6].Id, s.Orders[orderAt("α")].Batch, s.Effects[7].Batch = n, n-1, n-1, n-1
		}, "the last batch ", n-1)
	}
	for _, n := range []int{0, 1, 999999, 1000000} {
		l.add(func(s *api.State) { s.Effects[0].Tries = n }, "tries ", n)
		l.add(func(s *api.State) { s.Orders[orderAt("j")].Saga.Refusals = n }, "refusals ", n)
	}
	for i, o := range some().Orders {
		l.add(func(s *api.State) { s.Orders[i].Saga.Given = true }, "given up: ", o.Id)
		l.add(func(s *api.State) { s.Orders[i].Total = 1000000000000 }, "a great total of ", o.Id)
		l.add(func(s *api.State) { s.Orders[i].Lines[1].Sku = "z" }, "another thing in ", o.Id)
	}
	for i, b := range some().Batches {
		l.add(func(s *api.State) { slices.Reverse(s.Batches[i].Members) }, "members the other way round in ", b.Id)
		l.add(func(s *api.State) { s.Batches[i].Born = 0 }, "an older ", b.Id)
	}
	for i, e := range some().Effects[1:] {
		l.add(func(s *api.State) { s.Effects[i+1].Key = s.Effects[i].Key + 1 }, "a key right behind the one ahead: ", e.Kind)
	}
	l.add(func(s *api.State) {
		s.Effects[0].Batch, s.Effects[2].Batch = 0, 0
		s.Effects[0].Kind, s.Effects[0].Order = api.Reserve, "f"
		s.Effects[1].Kind, s.Effects[1].Order, s.Effects[1].Batch = api.Pick, "", 3
		s.Effects[2].Batch = 8
	}, "the keys of two effects are swapped")
	l.add(func(s *api.State) { s.Effects[0].Key, s.Effects[1].Key = 1, 2 }, "keys from 1 on")
	l.add(func(s *api.State) {
		s.Batches[0].Id, s.Orders[0].Batch, s.Orders[1].Batch = 1, 1, 1
	}, "batches from 1 on")
	l.add(func(s *api.State) {
		s.Orders, s.Batches, s.Effects = nil, nil, nil
	}, "nothing is known")
	l.add(func(s *api.State) {
		s.Orders, s.Batches, s.Effects, s.NextBatch, s.NextKey = []api.Order{}, []api.Batch{}, []api.Effect{}, 1, 1
	}, "empty lists")
	l.add(func(s *api.State) {
		s.Orders, s.Batches, s.Effects = s.Orders[orderAt("l"):orderAt("m")+1], s.Batches[:0], s.Effects[:0]
	}, "orders alone that are over")
	l.add(func(s *api.State) {
		s.Orders[0].Lines, s.Orders[1].Lines = []api.Line{{Sku: "x", Qty: 1000}}, []api.Line{{Sku: "y", Qty: 1000, Weight: 100000}}
		s.Batches[0].Weight = 100000000
	}, "orders of no weight and of much")
	l.add(func(s *api.State) {
		s.Orders[0].Saga.Phase, s.Orders[1].Saga.Phase, s.Batches[0].Phase = api.Picking, api.Picking, api.Out
		s.Effects = slices.Insert(s.Effects, 2, api.Effect{Key: 5, Kind: api.Pick, Batch: 2})
	}, "a wave that went out")
	l.add(func(s *api.State) {
		o := made("ab", near(), api.Waiting, 2, 1)
		s.Orders = slices.Insert(s.Orders, 2, o)
		s.Batches[0].Members = append(s.Batches[0].Members, "ab", "")[:3]
		s.Batches[0].Weight += 11
	}, "one more in a wave")
	return l
}

// notRight are changes that break one of the chapter's words alone, as far as one can be broken alone.
func notRight() []change {
	var l changes
	brokenSettings(&l)
	brokenOrders(&l)
	brokenBatches(&l)
	brokenMembers(&l)
	brokenEffects(&l)
	brokenAsks(&l)
	return l
}

func brokenSettings(l *changes) {
	for _, n := range wrongCounts {
		l.add(func(s *api.State) { s.Waves.Count = n }, "waves of ", n)
		l.add(func(s *api.State) { s.Manifests.Count = n }, "manifests of ", n)
	}
	for _, n := range wrongNumbers {
		l.add(func(s *api.State) { s.Waves.Weight = n }, "waves as heavy as ", n)
		l.add(func(s *api.State) { s.Manifests.Weight = n }, "manifests as heavy as ", n)
	}
	for _, n := range wrongLimits {
		l.add(func(s *api.State) { s.Limit = n }, "limit ", n)
	}
	for _, doors := range append(wrongDoors, unsortedDoors...) {
		l.add(func(s *api.State) { s.Doors = doors }, "doors ", doors)
	}
	for _, n := range wrongTicks {
		l.add(func(s *api.State) { s.Now = n }, "now ", n)
	}
	for _, n := range append([]int64{1, 2, 10, 11}, wrongNumbers...) {
		l.add(func(s *api.State) { s.NextBatch = n }, "next batch ", n)
	}
	for _, n := range append([]int64{1, 2, 28, 29}, wrongNumbers...) {
		l.add(func(s *api.State) { s.NextKey = n }, "next key ", n)
	}
	for _, n := range wrongNumbers {
		l.add(func(s *api.State) {
			s.Orders, s.Batches, s.Effects = nil, nil, nil
			s.NextBatch = n
		}, "nothing known, next batch ", n)
		l.add(func(s *api.State) {
			s.Orders, s.Batches, s.Effects = nil, nil, nil
			s.NextKey = n
		}, "nothing known, next key ", n)
	}
}

func brokenOrders(l *changes) {
	compensated, alone := orderAt("l"), orderAt("β")
	for _, id := range []string{"l ", "lA", "l_", "l\x00", "lé", "l\xff", "l" + strings.Repeat("0", 16), "l" + strings.Repeat("0", 1<<16)} {
		l.add(func(s *api.State) { s.Orders[compensated].Id = id }, "the id ", id)
	}
	for i, o := range some().Orders {
		l.add(func(s *api.State) { s.Orders[i].Id = "" }, "no id: ", o.Id)
		l.add(func(s *api.State) { s.Orders[i].Total = -1 }, "the total -1: ", o.Id)
		l.add(func(s *api.State) { s.Orders[i].Total = 1000000000001 }, "too great a total: ", o.Id)
		l.add(func(s *api.State) { s.Orders[i].Saga.Refusals = -1 }, "refusals -1: ", o.Id)
		l.add(func(s *api.State) { s.Orders[i].Saga.Refusals = 1000001 }, "too many refusals: ", o.Id)
		l.add(func(s *api.State) { s.Orders[i].Lines[1].Qty = 0 }, "no pieces: ", o.Id)
		l.add(func(s *api.State) { s.Orders[i].Lines[1].Sku = "x" }, "a thing twice: ", o.Id)
		l.add(func(s *api.State) { s.Orders[i].Lines = nil }, "no lines: ", o.Id)
		l.add(func(s *api.State) { s.Orders[i].Group = api.Group{} }, "no group: ", o.Id)
		l.add(func(s *api.State) { s.Orders[i].Batch = -1 }, "batch -1: ", o.Id)
		l.add(func(s *api.State) { s.Orders[i].Batch = 1000000000001 }, "too great a batch: ", o.Id)
		for phase := -1; phase <= 14; phase++ {
			if phase < api.Reserving || phase > api.Stuck {
				l.add(func(s *api.State) { s.Orders[i].Saga.Phase = phase }, "phase ", phase, ": ", o.Id)
			}
		}
	}
	for _, phase := range []int{0, 13, -1, math.MaxInt, math.MinInt, 1<<32 + api.Stuck} {
		l.add(func(s *api.State) { s.Orders[compensated].Saga.Phase = phase }, "phase ", phase, " of who asks for nothing")
	}
	l.add(func(s *api.State) { s.Orders[compensated].Group.Zone = "N" }, "a group that can't be, of who is over")
	l.add(func(s *api.State) {
		s.Orders[alone].Group.Zone, s.Batches[5].Group.Zone = "N", "N"
	}, "a group that can't be, of a wave and its only one")
	l.add(func(s *api.State) {
		s.Orders[alone].Lines, s.Batches[5].Weight = nil, 0
	}, "no lines, in a wave of no weight")
	l.add(func(s *api.State) {
		s.Orders[alone].Lines[0].Qty, s.Batches[5].Weight = 1001, 0
	}, "too many pieces, in a wave of no weight")
	l.add(func(s *api.State) {
		s.Orders[alone].Lines[0].Qty, s.Batches[5].Weight = 1001, 10011
	}, "too many pieces, in a wave that weighs them")
	l.add(func(s *api.State) {
		s.Orders[alone].Batch, s.Batches = 0, slices.Delete(s.Batches, 5, 6)
	}, "waiting in no wave")
	l.add(func(s *api.State) {
		s.Orders[compensated].Batch, s.Batches[5].Weight = 10, s.Batches[5].Weight+161
		s.Batches[5].Members = append(s.Batches[5].Members, "l")
	}, "in a wave though over")
	for i := range len(some().Orders) - 1 {
		l.add(func(s *api.State) { s.Orders[i], s.Orders[i+1] = s.Orders[i+1], s.Orders[i] }, "orders ", i, " and the next one are swapped")
	}
	for i := range some().Orders {
		l.add(func(s *api.State) { s.Orders = slices.Insert(s.Orders, i, s.Orders[i]) }, "order ", i, " stands twice")
		l.add(func(s *api.State) { s.Orders = append(s.Orders, s.Orders[i]) }, "order ", i, " stands at the end too")
	}
	l.add(func(s *api.State) { s.Orders = append(s.Orders, made("l", near(), api.Shipped, 0, 1)) }, "another one of an id at the end")
	l.add(func(s *api.State) {
		s.Orders = slices.Insert(s.Orders, compensated, made("l", near(), api.Shipped, 0, 1))
	}, "another one of an id beside it")
	l.add(func(s *api.State) { slices.Reverse(s.Orders) }, "orders the other way round")
	l.add(func(s *api.State) { s.Orders = append(s.Orders, api.Order{}) }, "an order of nothing at the end")
}

func brokenBatches(l *changes) {
	for i, b := range some().Batches {
		for _, n := range wrongTicks {
			l.add(func(s *api.State) { s.Batches[i].Born = n }, "born at ", n, ": ", b.Id)
		}
		for _, n := range []int{math.MinInt, -1, 0, 3, 4, 1<<32 + b.Kind, math.MaxInt} {
			l.add(func(s *api.State) { s.Batches[i].Kind = n }, "kind ", n, ": ", b.Id)
		}
		for _, n := range []int{math.MinInt, -1, 0, api.Done, 4, 1<<32 + b.Phase, math.MaxInt} {
			l.add(func(s *api.State) { s.Batches[i].Phase = n }, "phase ", n, ": ", b.Id)
			l.add(func(s *api.State) {
				s.Batches[i].Phase = n
				s.Effects = slices.DeleteFunc(s.Effects, func(e api.Effect) bool { return e.Batch == b.Id })
			}, "phase ", n, ", and nothing asked for: ", b.Id)
		}
		for _, n := range []int64{-1, 0, b.Weight - 1, b.Weight + 1, b.Weight + 1<<32, 1000000000001, math.MaxInt64, math.MinInt64} {
			l.add(func(s *api.State) { s.Batches[i].Weight = n }, "weight ", n, ": ", b.Id)
		}
		l.add(func(s *api.State) {
			s.Batches[i].Members = append(s.Batches[i].Members, s.Batches[i].Members[0])
		}, "a member twice: ", b.Id)
		l.add(func(s *api.State) {
			s.Batches[i].Members = append(s.Batches[i].Members, s.Batches[i].Members[0])
			s.Batches[i].Weight = Weight(*s, s.Batches[i].Members)
		}, "a member twice that weighs twice: ", b.Id)
		l.add(func(s *api.State) {
			s.Batches[i].Members, s.Batches[i].Weight = nil, 0
		}, "no members: ", b.Id)
		l.add(func(s *api.State) { s.Batches = slices.Delete(s.Batches, i, i+1) }, "not there: ", b.Id)
		l.add(func(s *api.State) { s.Batches = slices.Insert(s.Batches, i, s.Batches[i]) }, "stands twice: ", b.Id)
		for _, at := range []int64{1, 4, 6, 7, 12, 1000000000001, -1, 0} {
			l.add(func(s *api.State) { s.Batches[i].Id = at }, "another id, ", at, ": ", b.Id)
		}
	}
	for i := range len(some().Batches) - 1 {
		l.add(func(s *api.State) { s.Batches[i], s.Batches[i+1] = s.Batches[i+1], s.Batches[i] }, "batches ", i, " and the next one are swapped")
	}
	for _, kind := range []int{api.Wave, api.Manifest} {
		for i, id := range map[int]int64{0: 1, 2: 4, 3: 6, 7: 12} {
			for _, members := range [][]string{nil, {}} {
				empty := api.Batch{Id: id, Kind: kind, Phase: api.Open, Group: near(), Members: members}
				l.add(func(s *api.State) {
					s.Batches = slices.Insert(s.Batches, i, empty)
					s.NextBatch = 13
				}, "one of kind ", kind, " that is empty at ", i)
			}
		}
		l.add(func(s *api.State) {
			s.Batches = slices.Insert(s.Batches, 0, api.Batch{Id: 1, Kind: kind, Phase: api.Out, Group: near()})
			s.Effects = slices.Insert(s.Effects, 0, api.Effect{Key: 1, Kind: api.Pick + kind - 1, Batch: 1})
		}, "one of kind ", kind, " that is out and empty")
		l.add(func(s *api.State) {
			s.Batches = slices.Insert(s.Batches, 0, api.Batch{Id: 1, Kind: kind, Phase: api.Done, Group: near()})
		}, "one of kind ", kind, " that is done and empty")
	}
	l.add(func(s *api.State) {
		s.Batches[0].Members, s.Batches[0].Weight = []string{"a-2"}, 21
		s.Batches = slices.Insert(s.Batches, 1, s.Batches[0])
		s.Batches[1].Members, s.Batches[1].Weight = []string{"a-1"}, 11
	}, "two of one id")
	l.add(func(s *api.State) {
		s.Batches[6].Id, s.Orders[orderAt("α")].Batch, s.Effects[7].Batch = 12, 12, 12
	}, "the id of the next one")
	l.add(func(s *api.State) {
		s.Batches[6].Id, s.Orders[orderAt("α")].Batch, s.Effects[7].Batch = 13, 13, 13
	}, "an id above that of the next one")
	l.add(func(s *api.State) {
		s.Batches[0].Id, s.Orders[0].Batch, s.Orders[1].Batch = 4, 4, 4
	}, "an id that is above the next one's")
	l.add(func(s *api.State) { s.Batches = append(s.Batches, api.Batch{}) }, "a batch of nothing at the end")
	l.add(func(s *api.State) { slices.Reverse(s.Batches) }, "batches the other way round")
}

func brokenMembers(l *changes) {
	for i, b := range some().Batches {
		l.add(func(s *api.State) { s.Batches[i].Members = append(s.Batches[i].Members, "zz") }, "a member that there isn't: ", b.Id)
		l.add(func(s *api.State) { s.Batches[i].Members[0] = "zz" }, "one that there isn't in place of one: ", b.Id)
		l.add(func(s *api.State) {
			s.Batches[i].Members[0] = "zz"
			s.Batches[i].Weight = Weight(*s, s.Batches[i].Members)
		}, "one that there isn't, and weighs nothing, in place of one: ", b.Id)
		l.add(func(s *api.State) { s.Batches[i].Members = append(s.Batches[i].Members, "") }, "a member of nothing: ", b.Id)
		for _, o := range some().Orders {
			if !slices.Contains(b.Members, o.Id) {
				l.add(func(s *api.State) {
					s.Batches[i].Members = append(s.Batches[i].Members, o.Id)
					s.Batches[i].Weight = Weight(*s, s.Batches[i].Members)
				}, "a member that isn't in it, ", o.Id, ": ", b.Id)
			}
		}
		l.add(func(s *api.State) {
			s.Batches[i].Members = s.Batches[i].Members[1:]
			s.Batches[i].Weight = Weight(*s, s.Batches[i].Members)
		}, "one lacks, ", b.Id)
		for _, id := range b.Members {
			at := orderAt(id)
			brokenMember(l, at, b)
		}
		for _, part := range []func(g *api.Group) *string{func(g *api.Group) *string { return &g.Carrier }, func(g *api.Group) *string { return &g.Zone }, func(g *api.Group) *string { return &g.Service }} {
			l.add(func(s *api.State) { *part(&s.Batches[i].Group) = "q" }, "another group: ", b.Id)
			l.add(func(s *api.State) { *part(&s.Orders[orderAt(b.Members[0])].Group) = "q" }, "the first one of another group: ", b.Id)
			l.add(func(s *api.State) { *part(&s.Orders[orderAt(b.Members[len(b.Members)-1])].Group) = "q" }, "the last one of another group: ", b.Id)
		}
		for kind := api.Wave; kind <= api.Manifest; kind++ {
			for phase := api.Open; phase <= api.Done; phase++ {
				if kind != b.Kind || phase != b.Phase {
					l.add(func(s *api.State) { s.Batches[i].Kind, s.Batches[i].Phase = kind, phase }, "kind ", kind, ", phase ", phase, ": ", b.Id)
					l.add(func(s *api.State) {
						s.Batches[i].Kind, s.Batches[i].Phase = kind, phase
						asksAnew(s)
					}, "kind ", kind, ", phase ", phase, ", and asked for so: ", b.Id)
				}
			}
		}
	}
	at := orderAt("β")
	l.add(func(s *api.State) {
		s.Orders[at].Batch, s.Batches = 7, slices.Delete(s.Batches, 5, 6)
	}, "a batch that there isn't")
	l.add(func(s *api.State) {
		s.Orders[at].Batch, s.Batches = 10, slices.Delete(s.Batches, 5, 6)
	}, "a batch that there isn't any more")
	l.add(func(s *api.State) {
		s.Orders[at].Batch, s.Batches = 2, slices.Delete(s.Batches, 5, 6)
	}, "a batch that is another one's")
	l.add(func(s *api.State) {
		s.Orders[at].Batch, s.Batches[5] = 9, api.Batch{Id: 10, Weight: 91, Kind: api.Wave, Phase: api.Open, Group: far(), Members: []string{"e"}}
	}, "two that are in each other's")
}

// brokenMember changes the order at that place, which is in b.
func brokenMember(l *changes, at int, b api.Batch) {
	o := some().Orders[at]
	for phase := api.Reserving; phase <= api.Stuck; phase++ {
		if phase != o.Saga.Phase {
			l.add(func(s *api.State) { s.Orders[at].Saga.Phase = phase }, "phase ", phase, ": ", o.Id)
			l.add(func(s *api.State) {
				s.Orders[at].Saga.Phase = phase
				asksAnew(s)
			}, "phase ", phase, ", and asked for so: ", o.Id)
			l.add(func(s *api.State) {
				s.Orders[at].Saga.Phase, s.Orders[at].Batch = phase, 0
				asksAnew(s)
			}, "phase ", phase, ", in no batch, and asked for so: ", o.Id)
		}
	}
	for batch := int64(0); batch <= 13; batch++ {
		if batch != b.Id {
			l.add(func(s *api.State) { s.Orders[at].Batch = batch }, "in ", batch, ": ", o.Id)
		}
	}
	l.add(func(s *api.State) { s.Orders[at].Batch += 1 << 32 }, "far off: ", o.Id)
	l.add(func(s *api.State) { s.Orders[at].Lines[0].Qty++ }, "a piece more: ", o.Id)
	l.add(func(s *api.State) { s.Orders[at].Lines[1].Weight = 0 }, "a lighter thing: ", o.Id)
	l.add(func(s *api.State) { s.Orders = slices.Delete(s.Orders, at, at+1) }, "not there: ", o.Id)
}

// asksAnew makes the effects such as the words ask for, whatever the orders and the batches are.
func asksAnew(s *api.State) {
	s.Effects = nil
	add := func(e api.Effect) {
		e.Key = int64(len(s.Effects) + 1)
		s.Effects = append(s.Effects, e)
	}
	for _, o := range s.Orders {
		if kind := asksByWords(o.Saga.Phase); kind != 0 {
			add(api.Effect{Kind: kind, Order: o.Id})
		}
	}
	for _, b := range s.Batches {
		if b.Phase == api.Out {
			add(api.Effect{Kind: api.Pick + b.Kind - 1, Batch: b.Id})
		}
	}
}

func brokenEffects(l *changes) {
	for i, e := range some().Effects {
		for _, n := range wrongNumbers {
			l.add(func(s *api.State) { s.Effects[i].Key = n }, "key ", n, ": ", e.Key)
		}
		for _, n := range wrongTicks {
			l.add(func(s *api.State) { s.Effects[i].Due = n }, "due at ", n, ": ", e.Key)
		}
		for _, n := range []int{math.MinInt, -1, 1000001, 1 << 32, math.MaxInt} {
			l.add(func(s *api.State) { s.Effects[i].Tries = n }, "tries ", n, ": ", e.Key)
		}
		for kind := -1; kind <= 9; kind++ {
			if kind != e.Kind {
				l.add(func(s *api.State) { s.Effects[i].Kind = kind }, "kind ", kind, ": ", e.Key)
			}
		}
		l.add(func(s *api.State) { s.Effects[i].Order += "l" }, "more of an order: ", e.Key)
		l.add(func(s *api.State) { s.Effects[i].Order = "L" }, "no label: ", e.Key)
		l.add(func(s *api.State) { s.Effects[i].Batch += 1 }, "more of a batch: ", e.Key)
		l.add(func(s *api.State) { s.Effects[i].Batch = -1 }, "no batch: ", e.Key)
		l.add(func(s *api.State) { s.Effects[i].Key = 30 }, "the next key: ", e.Key)
		if i > 0 {
			l.add(func(s *api.State) { s.Effects[i].Key = s.Effects[i-1].Key }, "the key ahead: ", e.Key)
			l.add(func(s *api.State) { s.Effects[i].Key, s.Effects[i-1].Key = s.Effects[i-1].Key, s.Effects[i].Key }, "keys swapped: ", e.Key)
			l.add(func(s *api.State) { s.Effects[i], s.Effects[i-1] = s.Effects[i-1], s.Effects[i] }, "effects swapped: ", e.Key)
		}
	}
	for _, n := range []int64{30, 31, 1 << 32, 1000000000000} {
		l.add(func(s *api.State) { s.Effects[7].Key = n }, "the last key ", n)
	}
	l.add(func(s *api.State) { slices.Reverse(s.Effects) }, "effects the other way round")
	l.add(func(s *api.State) { s.Effects = append(s.Effects, api.Effect{}) }, "an effect of nothing at the end")
}

func brokenAsks(l *changes) {
	more := func(s *api.State, e api.Effect) {
		e.Key, s.NextKey = s.NextKey, s.NextKey+1
		s.Effects = append(s.Effects, e)
	}
	l.add(func(s *api.State) { s.Effects = nil }, "nothing is asked for")
	for i, e := range some().Effects {
		l.add(func(s *api.State) { s.Effects = slices.Delete(s.Effects, i, i+1) }, "not asked for: ", e.Key)
		l.add(func(s *api.State) { more(s, e) }, "twice, under two keys: ", e.Key)
		l.add(func(s *api.State) { more(s, e); more(s, e) }, "thrice, under three keys: ", e.Key)
		l.add(func(s *api.State) { s.Effects = slices.Insert(s.Effects, 0, e); s.Effects[0].Key = 1 }, "twice, the first time at the beginning: ", e.Key)
		l.add(func(s *api.State) {
			s.Effects[(i+1)%8].Kind, s.Effects[(i+1)%8].Order, s.Effects[(i+1)%8].Batch = e.Kind, e.Order, e.Batch
		}, "twice, in place of the next one: ", e.Key)
	}
	for kind := api.Reserve; kind <= api.Release; kind++ {
		if kind == api.Pick || kind == api.Transmit {
			for batch := int64(1); batch <= 13; batch++ {
				l.add(func(s *api.State) { more(s, api.Effect{Kind: kind, Batch: batch}) }, "kind ", kind, " more of batch ", batch)
			}
			continue
		}
		for _, id := range append([]string{"zz", "a"}, ids(some())...) {
			l.add(func(s *api.State) { more(s, api.Effect{Kind: kind, Order: id}) }, "kind ", kind, " more of order ", id)
		}
	}
	for i, o := range some().Orders {
		if o.Batch != 0 {
			continue
		}
		for phase := api.Reserving; phase <= api.Stuck; phase++ {
			if asksByWords(phase) != asksByWords(o.Saga.Phase) {
				l.add(func(s *api.State) { s.Orders[i].Saga.Phase = phase }, "phase ", phase, ", asked for as before: ", o.Id)
			}
		}
		if asksByWords(o.Saga.Phase) != 0 {
			l.add(func(s *api.State) { s.Orders = slices.Delete(s.Orders, i, i+1) }, "asked for though not there: ", o.Id)
		}
	}
	l.add(func(s *api.State) { s.Orders, s.Batches = nil, nil }, "asked for by none")
}

func ids(s api.State) []string {
	var l []string
	for _, o := range s.Orders {
		l = append(l, o.Id)
	}
	return l
}

func TestRight(t *testing.T) {
	for _, c := range stillRight() {
		if s := with(c.change); !Right(s) || !rightByWords(s) {
			t.Errorf("%s: Right %v, by the words %v", c.what, Right(s), rightByWords(s))
		}
	}
	for _, c := range notRight() {
		if s := with(c.change); Right(s) || rightByWords(s) {
			t.Errorf("%.200s: Right %v, by the words %v", c.what, Right(s), rightByWords(s))
		}
	}
	if Right(api.State{}) {
		t.Error("a state of nothing is right")
	}
}

func TestRightAtEachCountOfOrders(t *testing.T) {
	for phase := api.Reserving; phase <= api.Stuck; phase++ {
		for _, n := range []int{0, 1, 2, 64, 65, 255, 256, 399, 400, 401, 402, 512, 1000} {
			if got := Right(many(n, phase)); got != (n <= 400) || got != rightByWords(many(n, phase)) {
				t.Errorf("%d orders of phase %d: %v", n, phase, got)
			}
		}
	}
}

func TestRightAtEachCountOfMembers(t *testing.T) {
	for phase := api.Waiting; phase <= api.Sending; phase++ {
		for n := 1; n <= 130; n++ {
			if got := Right(together(n, phase)); got != (n <= 64) || got != rightByWords(together(n, phase)) {
				t.Errorf("%d together in phase %d: %v", n, phase, got)
			}
		}
	}
}

// TestRightOfEffectsOfOthers: what one lacks isn't made up by what another one has too much.
func TestRightOfEffectsOfOthers(t *testing.T) {
	for phase := api.Reserving; phase <= api.Stuck; phase++ {
		s := many(9, phase)
		for i := range s.Effects {
			for j := range s.Effects {
				x := many(9, phase)
				x.Effects[i].Order, x.Effects[i].Batch = s.Effects[j].Order, s.Effects[j].Batch
				if got := Right(x); got != (i == j) {
					t.Errorf("phase %d, effect %d asks for what %d does: %v", phase, i, j, got)
				}
			}
			x := many(9, phase)
			x.Effects[0].Order, x.Effects[i].Order = x.Effects[i].Order, x.Effects[0].Order
			x.Effects[0].Batch, x.Effects[i].Batch = x.Effects[i].Batch, x.Effects[0].Batch
			if !Right(x) {
				t.Errorf("phase %d, effects 0 and %d ask for each other's: not right", phase, i)
			}
		}
	}
}

// TestRightOfNilAndEmpty: a list that is nil and one that is empty are one.
func TestRightOfNilAndEmpty(t *testing.T) {
	s, _ := New(api.Caps{Count: 1, Weight: 1}, api.Caps{Count: 1, Weight: 1}, 1, 0)
	for _, orders := range [][]api.Order{nil, {}, some().Orders[:0]} {
		for _, batches := range [][]api.Batch{nil, {}, some().Batches[:0]} {
			for _, effects := range [][]api.Effect{nil, {}, some().Effects[:0]} {
				s.Orders, s.Batches, s.Effects = orders, batches, effects
				if !Right(s) {
					t.Errorf("%v: not right", s)
				}
			}
		}
	}
}

// TestRightOfLongLists: what is far too long is told soon.
func TestRightOfLongLists(t *testing.T) {
	long := many(9999, api.Waiting)
	if Right(long) {
		t.Error("9999 orders")
	}
	few := many(9999, api.Waiting)
	few.Orders = few.Orders[:400]
	if Right(few) {
		t.Error("more batches than orders")
	}
	asked := some()
	for range 1 << 20 {
		asked.Effects = append(asked.Effects, api.Effect{Key: asked.NextKey, Kind: api.Void, Order: name(len(asked.Effects) % 10000)})
		asked.NextKey++
	}
	if Right(asked) {
		t.Error("more effects than orders")
	}
	doors := some()
	doors.Doors = make([]int, 1<<22)
	if Right(doors) {
		t.Error("more doors than ticks")
	}
	members := some()
	members.Batches[0].Members = make([]string, 1<<22)
	if Right(members) {
		t.Error("more members than orders")
	}
}
