package outbox

import (
	"fmt"
	"math"
	"math/rand"
	"slices"
	"testing"

	"packhorse/api"
	"packhorse/packet"
)

// addByWords goes by the chapter's own words.
func addByWords(l []api.Effect, e api.Effect) ([]api.Effect, api.Errno) {
	for _, other := range l {
		if other.Key >= e.Key {
			return nil, 131
		}
	}
	if !effectByWords(e) {
		return nil, 131
	}
	return append(slices.Clone(l), e), 0
}

// sentByWords goes by the chapter's own words.
func sentByWords(l []api.Effect, key, now int64) ([]api.Effect, api.Errno) {
	at := slices.IndexFunc(l, func(e api.Effect) bool { return e.Key == key })
	if at < 0 || now < 0 || now > 1<<40 {
		return nil, 131
	}
	sent := slices.Clone(l)
	wait := int64(1)
	for k := 0; k < l[at].Tries && wait < 64; k++ {
		wait *= 2
	}
	sent[at].Due = now + wait
	if sent[at].Due > 1<<40 {
		sent[at].Due = 1 << 40
	}
	if sent[at].Tries < 1000000 {
		sent[at].Tries++
	}
	return sent, 0
}

// settleByWords goes by the chapter's own words.
func settleByWords(l []api.Effect, key int64) ([]api.Effect, api.Errno) {
	left := slices.DeleteFunc(slices.Clone(l), func(e api.Effect) bool { return e.Key == key })
	if len(left) == len(l) {
		return nil, 131
	}
	return left, 0
}

// held holds an answer against the one that is wanted: beside ErrKey there is none, and else it is an outbox.
func held(t *testing.T, what string, got []api.Effect, errno api.Errno, want []api.Effect, wantErrno api.Errno) {
	t.Helper()
	if !slices.Equal(got, want) || errno != wantErrno {
		t.Errorf("%s: %.300s %d, want %.300s %d", what, fmt.Sprint(got), errno, fmt.Sprint(want), wantErrno)
	}
	if errno != api.OK && len(got) != 0 || !Right(got) {
		t.Errorf("%s: %.300s beside %d", what, fmt.Sprint(got), errno)
	}
}

func adds(t *testing.T, what string, l []api.Effect, e api.Effect, want api.Errno) {
	t.Helper()
	got, errno := Add(l, e)
	byWords, errnoByWords := addByWords(l, e)
	held(t, "Add, "+what, got, errno, byWords, errnoByWords)
	if errno != want {
		t.Errorf("Add, %s: %d, want %d", what, errno, want)
	}
}

func sends(t *testing.T, what string, l []api.Effect, key, now int64, want api.Errno) {
	t.Helper()
	got, errno := Sent(l, key, now)
	byWords, errnoByWords := sentByWords(l, key, now)
	held(t, "Sent, "+what, got, errno, byWords, errnoByWords)
	if errno != want {
		t.Errorf("Sent, %s: %d, want %d", what, errno, want)
	}
}

func settles(t *testing.T, what string, l []api.Effect, key int64, want api.Errno) {
	t.Helper()
	got, errno := Settle(l, key)
	byWords, errnoByWords := settleByWords(l, key)
	held(t, "Settle, "+what, got, errno, byWords, errnoByWords)
	if errno != want {
		t.Errorf("Settle, %s: %d, want %d", what, errno, want)
	}
}

func TestAddToNone(t *testing.T) {
	for _, none := range [][]api.Effect{nil, {}, some()[:0]} {
		for i, e := range rightEffects() {
			adds(t, fmt.Sprint("to none, effect ", i), none, e, api.OK)
		}
		for i, e := range wrongEffects() {
			adds(t, fmt.Sprint("to none, wrong effect ", i), none, e, api.ErrKey)
		}
	}
}

func TestAddAtTheEnd(t *testing.T) {
	l := some()[:4]
	e := api.Effect{Key: 201, Kind: api.Capture, Order: "o-7", Due: 4}
	got, errno := Add(l, e)
	if errno != api.OK || !slices.Equal(got, append(slices.Clone(l), e)) {
		t.Errorf("%v %d", got, errno)
	}
	for key, want := range map[int64]api.Errno{
		201: 0, 202: 0, 1 << 32: 0, 999999999999: 0, 1000000000000: 0,
		200: 131, 199: 131, 100: 131, 9: 131, 8: 131, 4: 131, 3: 131, 2: 131, 1: 131, 0: 131, -1: 131, 1000000000001: 131, 1<<40 + 201: 131, math.MaxInt64: 131, math.MinInt64: 131,
	} {
		e.Key = key
		adds(t, fmt.Sprint("a key of ", key), l, e, want)
	}
	for i, e := range rightEffects() {
		if e.Key != 1000000000000 {
			e.Key = 201
		}
		adds(t, fmt.Sprint("effect ", i), l, e, api.OK)
		adds(t, fmt.Sprint("behind the greatest key, effect ", i), some(), e, api.ErrKey)
	}
	for i, e := range wrongEffects() {
		if e.Key == 5 {
			e.Key = 201
		}
		adds(t, fmt.Sprint("wrong effect ", i), l, e, api.ErrKey)
	}
}

func TestAddOneByOne(t *testing.T) {
	var l []api.Effect
	for i, e := range many(400) {
		adds(t, fmt.Sprint("the one of ", i), l, e, api.OK)
		l, _ = Add(l, e)
		adds(t, fmt.Sprint("once more the one of ", i), l, e, api.ErrKey)
		e.Key--
		adds(t, fmt.Sprint("below the one of ", i), l, e, api.ErrKey)
	}
	if !slices.Equal(l, many(400)) {
		t.Error("they aren't in their order")
	}
}

func TestSent(t *testing.T) {
	for _, c := range []struct {
		key, now, due int64
		tries         int
	}{
		{2, 10, 11, 1}, {2, 0, 1, 1}, {2, 5, 6, 1},
		{3, 20, 28, 4}, {3, 0, 8, 4},
		{8, 100, 164, 7},
		{200, 1, 65, 1000000},
		{1000000000000, 1, 65, 1000000}, {1000000000000, 1 << 40, 1 << 40, 1000000},
	} {
		at := slices.IndexFunc(some(), func(e api.Effect) bool { return e.Key == c.key })
		want := some()
		want[at].Due, want[at].Tries = c.due, c.tries
		got, errno := Sent(some(), c.key, c.now)
		if errno != api.OK || !slices.Equal(got, want) {
			t.Errorf("Sent of %d at %d: %v %d", c.key, c.now, got, errno)
		}
	}
}

// TestSentAgainAndAgain is the chapter's example, gone on.
func TestSentAgainAndAgain(t *testing.T) {
	l := []api.Effect{{Key: 4, Kind: api.Reserve, Order: "a", Due: 10}}
	now := int64(10)
	for i, want := range []int64{11, 13, 17, 25, 41, 73, 137, 201, 265, 329} {
		if len(Due(l, now-1)) != 0 || len(Due(l, now)) != 1 {
			t.Errorf("at %d: due ahead of its time, or not", now)
		}
		var errno api.Errno
		l, errno = Sent(l, 4, now)
		if errno != api.OK || len(l) != 1 || l[0] != (api.Effect{Key: 4, Kind: api.Reserve, Order: "a", Due: want, Tries: i + 1}) {
			t.Fatalf("sent at %d: %v %d, want it due at %d", now, l, errno, want)
		}
		now = want
	}
}

func TestSentOfEachPlace(t *testing.T) {
	for i, l := range outboxes() {
		for _, e := range l {
			for _, now := range []int64{0, 1, e.Due, 1 << 32} {
				sends(t, fmt.Sprintf("outbox %d, key %d at %d", i, e.Key, now), l, e.Key, now, api.OK)
			}
		}
	}
	for n := range 40 {
		l := many(n)
		for key := int64(-2); key <= int64(2*n+4); key++ {
			want := api.ErrKey
			if key >= 2 && key <= int64(2*n) && key%2 == 0 {
				want = api.OK
			}
			sends(t, fmt.Sprintf("%d effects, key %d", n, key), l, key, 50, want)
			settles(t, fmt.Sprintf("%d effects, key %d", n, key), l, key, want)
		}
	}
}

func TestSentAtEachTime(t *testing.T) {
	for _, e := range some() {
		for _, now := range rightTicks {
			sends(t, fmt.Sprintf("key %d at %d", e.Key, now), some(), e.Key, now, api.OK)
		}
		for _, now := range wrongTicks {
			sends(t, fmt.Sprintf("key %d at %d", e.Key, now), some(), e.Key, now, api.ErrKey)
			sends(t, fmt.Sprintf("no key, at %d", now), some(), 5, now, api.ErrKey)
			sends(t, fmt.Sprintf("among none, at %d", now), nil, e.Key, now, api.ErrKey)
		}
	}
}

// TestSentNearTheLastTick: no Due lies above MaxTick, whatever the wait is.
func TestSentNearTheLastTick(t *testing.T) {
	for tries := range 9 {
		for back := range int64(70) {
			l := []api.Effect{{Key: 1, Kind: api.Pick, Batch: 1, Tries: tries}}
			now := 1<<40 - back
			want := min(now+[]int64{1, 2, 4, 8, 16, 32, 64, 64, 64}[tries], 1<<40)
			if got, errno := Sent(l, 1, now); errno != api.OK || len(got) != 1 || got[0].Due != want || got[0].Tries != tries+1 {
				t.Errorf("%d tries, at %d: %v %d, want %d", tries, now, got, errno, want)
			}
			sends(t, fmt.Sprintf("%d tries, at %d", tries, now), l, 1, now, api.OK)
		}
	}
}

func TestSentAtEachTries(t *testing.T) {
	for _, tries := range rightTries {
		l := []api.Effect{{Key: 1, Kind: api.Void, Order: "a", Tries: tries}, {Key: 2, Kind: api.Void, Order: "b", Tries: tries}}
		got, errno := Sent(l, 2, 7)
		if errno != api.OK || len(got) != 2 || got[0] != l[0] || got[1].Tries != min(tries+1, 1000000) || got[1].Due != 7+Backoff(tries) {
			t.Errorf("%d tries: %v %d", tries, got, errno)
		}
		sends(t, fmt.Sprint(tries, " tries"), l, 2, 7, api.OK)
	}
}

func TestSettle(t *testing.T) {
	for i, key := range []int64{2, 3, 8, 200, 1000000000000} {
		got, errno := Settle(some(), key)
		if want := slices.Delete(some(), i, i+1); errno != api.OK || !slices.Equal(got, want) {
			t.Errorf("Settle of %d: %v %d", key, got, errno)
		}
	}
	for _, key := range []int64{math.MinInt64, -2, -1, 0, 1, 4, 7, 9, 199, 201, 999999999999, 1000000000001, 1<<32 + 2, math.MaxInt64} {
		settles(t, fmt.Sprint("no such key ", key), some(), key, api.ErrKey)
		sends(t, fmt.Sprint("no such key ", key), some(), key, 1, api.ErrKey)
		for _, none := range [][]api.Effect{nil, {}, some()[:0]} {
			settles(t, fmt.Sprint("among none ", key), none, key, api.ErrKey)
			sends(t, fmt.Sprint("among none ", key), none, key, 1, api.ErrKey)
		}
	}
}

func TestSettleOfEachPlace(t *testing.T) {
	for i, l := range outboxes() {
		for _, e := range l {
			settles(t, fmt.Sprintf("outbox %d, key %d", i, e.Key), l, e.Key, api.OK)
		}
	}
	for i, e := range rightEffects() {
		if got, errno := Settle([]api.Effect{e}, e.Key); len(got) != 0 || errno != api.OK {
			t.Errorf("of effect %d alone: %v %d", i, got, errno)
		}
	}
}

// TestChangesShareNoMemory: what was handed in stays, and each answer is memory of its own.
func TestChangesShareNoMemory(t *testing.T) {
	for i, l := range outboxes() {
		for _, e := range append(rightEffects()[:3], api.Effect{Key: 999999999999, Kind: api.Pick, Batch: 2}) {
			ownEffects(t, fmt.Sprint("Add to outbox ", i), l, func(l []api.Effect) []api.Effect {
				added, _ := Add(l, e)
				return added
			})
		}
		keys := []int64{0}
		for _, e := range l {
			keys = append(keys, e.Key)
		}
		for _, key := range keys {
			ownEffects(t, fmt.Sprintf("Sent of %d in outbox %d", key, i), l, func(l []api.Effect) []api.Effect {
				sent, _ := Sent(l, key, 40)
				return sent
			})
			ownEffects(t, fmt.Sprintf("Settle of %d in outbox %d", key, i), l, func(l []api.Effect) []api.Effect {
				left, _ := Settle(l, key)
				return left
			})
		}
	}
}

// TestAnswersGoOn: two effects laid behind one and the same answer don't meet.
func TestAnswersGoOn(t *testing.T) {
	l := many(5)
	for range 20 {
		a, _ := Add(l, api.Effect{Key: 1000, Kind: api.Pick, Batch: 1})
		b, _ := Add(l, api.Effect{Key: 1001, Kind: api.Transmit, Batch: 2})
		if a[len(a)-1].Key != 1000 || b[len(b)-1].Key != 1001 || !slices.Equal(a[:len(l)], l) || !slices.Equal(b[:len(l)], l) {
			t.Fatalf("%v, %v", a, b)
		}
		l, _ = Add(l, api.Effect{Key: l[len(l)-1].Key + 1, Kind: api.Void, Order: "a"})
	}
}

// TestWaysByChance goes ways of calls by chance, each held against the chapter's words, and kept as bytes on the way.
func TestWaysByChance(t *testing.T) {
	chance := rand.New(rand.NewSource(13))
	effects := append(rightEffects(), wrongEffects()...)
	counts := map[string]int{}
	for way := range 60 {
		var l []api.Effect
		now, key := int64(0), int64(1)
		if way%6 == 0 {
			now = 1<<40 - 200
		}
		for step := range 200 {
			what := fmt.Sprintf("way %d, step %d", way, step)
			asked := key - 12 + chance.Int63n(14)
			was, did := l, api.OK
			switch chance.Intn(6) {
			case 0, 1:
				e := effects[chance.Intn(len(effects))]
				e.Key = key - 1 + chance.Int63n(3)
				_, want := addByWords(l, e)
				adds(t, what, l, e, want)
				l, did = Add(l, e)
				counts[fmt.Sprint("Add ", did)]++
				key = max(key, e.Key+1)
			case 2, 3:
				_, want := sentByWords(l, asked, now)
				sends(t, what, l, asked, now, want)
				l, did = Sent(l, asked, now)
				counts[fmt.Sprint("Sent ", did)]++
			case 4:
				_, want := settleByWords(l, asked)
				settles(t, what, l, asked, want)
				l, did = Settle(l, asked)
				counts[fmt.Sprint("Settle ", did)]++
			case 5:
				now += chance.Int63n(9)
				if got, want := Due(l, now), dueByWords(l, now); !slices.Equal(got, want) {
					t.Fatalf("%s: Due %v, want %v", what, got, want)
				}
			}
			if did != api.OK {
				l = was
			}
			finds(t, what, l, asked)
			if kept, ok := Take(packet.New(Put(nil, l))); !ok || !slices.Equal(kept, l) {
				t.Fatalf("%s: %v was kept as %v", what, l, kept)
			}
		}
	}
	for _, what := range []string{"Add 0", "Add 131", "Sent 0", "Sent 131", "Settle 0", "Settle 131"} {
		if counts[what] < 100 {
			t.Errorf("%s came only %d times", what, counts[what])
		}
	}
}
