package saga

import (
	"fmt"
	"math/rand"
	"testing"

	"packhorse/api"
)

// way is an order on its way: its saga, what is outstanding of it, and whether a Cancel was OK.
type way struct {
	saga        api.Saga
	outstanding int
	cancelled   bool
}

func begun() way {
	return way{saga: api.Saga{Phase: api.Reserving}, outstanding: api.Reserve}
}

// goes tells the way behind an event, and holds that what was asked for and not answered is what Asks tells.
func (w way) goes(t *testing.T, event, limit int) way {
	t.Helper()
	s, kind, errno := Step(w.saga, event, limit)
	if errno != api.OK {
		return w
	}
	if event == api.Yes || event == api.No {
		w.outstanding = 0
	}
	if kind != 0 {
		if w.outstanding != 0 {
			t.Errorf("event %d behind %v asks for %d, and %d is outstanding", event, w.saga, kind, w.outstanding)
		}
		w.outstanding = kind
	}
	if Asks(s.Phase) != w.outstanding {
		t.Errorf("event %d behind %v: %d is outstanding in phase %d, and Asks tells %d", event, w.saga, w.outstanding, s.Phase, Asks(s.Phase))
	}
	w.saga = s
	w.cancelled = w.cancelled || event == api.Cancel
	return w
}

// staysHere holds that an order of which a Cancel was OK has not left the house.
func (w way) staysHere(t *testing.T) {
	t.Helper()
	if w.cancelled && Left(w.saga) {
		t.Fatalf("a Cancel was OK, and it has left: %v", w.saga)
	}
}

// TestNeverLeft: all that can become of an order at all events.
func TestNeverLeft(t *testing.T) {
	for _, limit := range []int{-1, 0, 1, 2, 3, 7, 100} {
		known := map[way]struct{}{begun(): {}}
		left := 0
		for ways := []way{begun()}; len(ways) > 0; ways = ways[1:] {
			ways[0].staysHere(t)
			if len(known) > 10000 {
				t.Fatalf("with the limit %d there is no end of ways", limit)
			}
			if Left(ways[0].saga) {
				left++
			}
			for event := range 6 {
				next := ways[0].goes(t, event, limit)
				if _, ok := known[next]; !ok {
					known[next] = struct{}{}
					ways = append(ways, next)
				}
			}
		}
		if left == 0 {
			t.Errorf("with the limit %d none ever leaves", limit)
		}
		seen := map[int]int{}
		for w := range known {
			seen[w.saga.Phase]++
		}
		if len(seen) != 12 {
			t.Errorf("with the limit %d there are orders in the phases %v", limit, seen)
		}
	}
}

// TestNeverLeftByChance: one Cancel that is OK, at any time, and any events behind it.
func TestNeverLeftByChance(t *testing.T) {
	chance := rand.New(rand.NewSource(143))
	cancelled, left := 0, 0
	for range 50000 {
		w := begun()
		at := chance.Intn(30)
		for i := range 40 {
			event := []int{api.Yes, api.Yes, api.Yes, api.Freeze, api.Freeze, api.No}[chance.Intn(6)]
			if i == at || i > at && chance.Intn(4) == 0 {
				event = api.Cancel
			}
			w = w.goes(t, event, chance.Intn(6)-1)
			w.staysHere(t)
		}
		if w.cancelled {
			cancelled++
		}
		if Left(w.saga) {
			left++
		}
	}
	if cancelled < 1000 || left < 1000 {
		t.Errorf("%d were cancelled, %d left", cancelled, left)
	}
}

// answered tells what happens to one that nobody cancels: what is asked is answered, and batches go out.
func answered(chance *rand.Rand, phase, outOf int) int {
	switch {
	case phase == api.Waiting || phase == api.Packed:
		return api.Freeze
	case chance.Intn(outOf) == 0:
		return api.No
	}
	return api.Yes
}

// TestAllEnd: where all that is asked is answered, each comes to an end.
func TestAllEnd(t *testing.T) {
	chance := rand.New(rand.NewSource(144))
	ends := map[string]int{}
	for i := range 60000 {
		limit, outOf := chance.Intn(5)-1, 2+i%12
		w, cancelAt := begun(), chance.Intn(25)
		steps := 0
		for w.saga.Phase != api.Shipped && w.saga.Phase != api.Compensated && w.saga.Phase != api.Stuck {
			if steps == cancelAt {
				w = w.goes(t, api.Cancel, limit)
			}
			before := w
			w = w.goes(t, answered(chance, w.saga.Phase, outOf), limit)
			if w == before && before.saga.Phase != api.Capturing {
				t.Fatalf("nothing becomes of %v", before)
			}
			if steps++; steps > 1000 {
				t.Fatalf("no end: %v", w)
			}
		}
		if w.outstanding != 0 {
			t.Fatalf("at its end %d is outstanding: %v", w.outstanding, w)
		}
		if w.cancelled && w.saga.Phase == api.Shipped {
			t.Fatalf("cancelled and shipped: %v", w)
		}
		ends[fmt.Sprint(w.saga.Phase, w.cancelled)]++
	}
	for _, end := range []string{"8 false", "11 false", "11 true", "12 false", "12 true"} {
		if ends[end] < 100 {
			t.Errorf("%d came to %s", ends[end], end)
		}
	}
	if len(ends) != 5 {
		t.Error("ends are", ends)
	}
}

// TestRoads: whole ways, step by step, with what is asked for behind each.
func TestRoads(t *testing.T) {
	const y, n, c, f = api.Yes, api.No, api.Cancel, api.Freeze
	for i, x := range [][][3]int{
		// event, phase behind it, what is asked for
		{{y, 2, 2}, {y, 3, 0}, {f, 4, 0}, {y, 5, 0}, {f, 6, 0}, {y, 7, 5}, {n, 7, 5}, {n, 7, 5}, {y, 8, 0}},
		{{n, 11, 0}},
		{{y, 2, 2}, {n, 10, 7}, {y, 11, 0}},
		{{c, 1, 0}, {c, 1, 0}, {y, 10, 7}, {c, 10, 0}, {y, 11, 0}, {c, 11, 0}},
		{{c, 1, 0}, {n, 11, 0}},
		{{y, 2, 2}, {c, 2, 0}, {c, 2, 0}, {y, 9, 6}, {c, 9, 0}, {n, 9, 6}, {y, 10, 7}, {n, 10, 7}, {y, 11, 0}},
		{{y, 2, 2}, {c, 2, 0}, {n, 10, 7}, {n, 10, 7}, {n, 12, 0}},
		{{y, 2, 2}, {y, 3, 0}, {c, 9, 6}, {n, 9, 6}, {n, 12, 0}},
		{{y, 2, 2}, {y, 3, 0}, {f, 4, 0}, {c, 4, 0}, {c, 4, 0}, {y, 9, 6}, {y, 10, 7}, {y, 11, 0}},
		{{y, 2, 2}, {y, 3, 0}, {f, 4, 0}, {c, 4, 0}, {n, 9, 6}, {y, 10, 7}, {y, 11, 0}},
		{{y, 2, 2}, {y, 3, 0}, {f, 4, 0}, {n, 9, 6}, {y, 10, 7}, {n, 10, 7}, {n, 12, 0}},
		{{y, 2, 2}, {y, 3, 0}, {f, 4, 0}, {y, 5, 0}, {c, 9, 6}, {y, 10, 7}, {y, 11, 0}},
		{{y, 2, 2}, {y, 3, 0}, {f, 4, 0}, {y, 5, 0}, {f, 6, 0}, {n, 9, 6}, {n, 9, 6}, {n, 12, 0}},
	} {
		s := begun().saga
		for at, want := range x {
			next, kind, errno := Step(s, want[0], 2)
			if next.Phase != want[1] || kind != want[2] || errno != api.OK {
				t.Fatalf("road %d, step %d: %v, %d, %d", i, at, next, kind, errno)
			}
			s = next
		}
	}
}
