package batch

import (
	"fmt"
	"math"
	"math/big"
	"math/rand"
	"slices"
	"testing"

	"packhorse/api"
)

// someCaps are caps of all sorts, some of which can't be.
func someCaps() []api.Caps {
	return []api.Caps{
		{Count: 3, Weight: 500}, {Count: 1, Weight: 1}, {Count: 64, Weight: 1000000000000}, {Count: 4, Weight: 300},
		{}, {Count: -1, Weight: -1}, {Count: 65, Weight: 1000000000001}, {Count: math.MaxInt, Weight: math.MaxInt64}, {Count: math.MinInt, Weight: math.MinInt64},
	}
}

// open is an Open batch of so many members and that weight.
func open(n int, weight int64) api.Batch {
	return with(func(b *api.Batch) { b.Members, b.Weight = ids(n), weight })
}

// together tells a sum that never wraps round.
func together(a, b int64) *big.Int {
	return new(big.Int).Add(big.NewInt(a), big.NewInt(b))
}

func above(n *big.Int, most int64) bool {
	return n.Cmp(big.NewInt(most)) > 0
}

// joinByWords goes by the chapter's own words.
func joinByWords(b api.Batch, c api.Caps, id string, weight int64) (api.Batch, api.Errno) {
	sum := together(b.Weight, weight)
	switch {
	case b.Phase != 1:
		return b, 113
	case !labelByWords.MatchString(id) || slices.Contains(b.Members, id):
		return b, 112
	case len(b.Members) >= c.Count:
		return b, 111
	case (above(sum, c.Weight) || above(sum, 1e12)) && len(b.Members) > 0:
		return b, 111
	case above(sum, 1e12):
		return b, 111
	}
	b.Members = append(slices.Clone(b.Members), id)
	b.Weight = sum.Int64()
	return b, 0
}

// evictByWords goes by the chapter's own words.
func evictByWords(b api.Batch, id string, weight int64) (api.Batch, api.Errno) {
	if b.Phase != 1 {
		return b, 113
	}
	if !slices.Contains(b.Members, id) {
		return b, 112
	}
	b.Members = slices.DeleteFunc(slices.Clone(b.Members), func(s string) bool { return s == id })
	left := new(big.Int).Sub(big.NewInt(b.Weight), big.NewInt(weight))
	b.Weight = 0
	if left.Sign() > 0 {
		b.Weight = left.Int64()
	}
	return b, 0
}

// joins asks Join, and holds it against the errno that is wanted and against the chapter's words.
func joins(t *testing.T, what string, b api.Batch, c api.Caps, id string, weight int64, want api.Errno) {
	t.Helper()
	got, errno := Join(b, c, id, weight)
	byWords, errnoByWords := joinByWords(b, c, id, weight)
	if errno != want || errno != errnoByWords || !Same(got, byWords) {
		t.Errorf("%s: %.200s %d, want %.200s %d (by the words %d)", what, fmt.Sprint(got), errno, fmt.Sprint(byWords), want, errnoByWords)
	}
}

func evicts(t *testing.T, what string, b api.Batch, id string, weight int64, want api.Errno) {
	t.Helper()
	got, errno := Evict(b, id, weight)
	byWords, errnoByWords := evictByWords(b, id, weight)
	if errno != want || errno != errnoByWords || !Same(got, byWords) {
		t.Errorf("%s: %.200s %d, want %.200s %d (by the words %d)", what, fmt.Sprint(got), errno, fmt.Sprint(byWords), want, errnoByWords)
	}
}

func TestJoin(t *testing.T) {
	b, errno := Join(some(), api.Caps{Count: 9, Weight: 1000}, "x", 50)
	want := api.Batch{Id: 3, Weight: 350, Born: 5, Kind: 2, Phase: 1, Group: api.Group{Carrier: "ups", Zone: "n", Service: "fast"}, Members: []string{"o-7", "β", "a", "x"}}
	if errno != api.OK || !Same(b, want) {
		t.Errorf("%v %d", b, errno)
	}
	b, errno = Join(leanest(), api.Caps{Count: 1, Weight: 1}, "a", 1)
	want = leanest()
	want.Weight, want.Members = 1, []string{"a"}
	if errno != api.OK || !Same(b, want) {
		t.Errorf("%v %d", b, errno)
	}
}

// TestThirdIsFull is the chapter's own example.
func TestThirdIsFull(t *testing.T) {
	c := api.Caps{Count: 2, Weight: 1000000000000}
	b, first := Join(leanest(), c, "a", 1)
	b, second := Join(b, c, "b", 1)
	third, errno := Join(b, c, "c", 1)
	if first != api.OK || second != api.OK || errno != api.ErrFull || !Same(third, b) || !slices.Equal(b.Members, []string{"a", "b"}) || b.Weight != 2 {
		t.Errorf("%d, %d, %d: %v, %v", first, second, errno, b, third)
	}
}

func TestJoinAtEachPhase(t *testing.T) {
	c := api.Caps{Count: 9, Weight: 1000}
	for kind := 1; kind <= 2; kind++ {
		for phase, want := range map[int]api.Errno{api.Open: api.OK, api.Out: api.ErrClosed, api.Done: api.ErrClosed} {
			for _, n := range []int{0, 1, 8} {
				b := open(n, 5)
				b.Kind, b.Phase = kind, phase
				joins(t, fmt.Sprintf("kind %d, phase %d, %d members", kind, phase, n), b, c, "x", 1, want)
			}
		}
	}
}

func TestJoinOfIds(t *testing.T) {
	c := api.Caps{Count: 64, Weight: 1000000000000}
	for _, n := range []int{0, 1, 2, 63} {
		for _, id := range rightLabels {
			joins(t, fmt.Sprintf("%s to %d members", id, n), open(n, 5), c, id, 1, api.OK)
		}
		for _, id := range wrongLabels {
			joins(t, fmt.Sprintf("%.40q to %d members", id, n), open(n, 5), c, id, 1, api.ErrMember)
		}
		for i, id := range ids(n) {
			joins(t, fmt.Sprintf("member %d of %d", i, n), open(n, 5), c, id, 1, api.ErrMember)
			joins(t, fmt.Sprintf("member %d of %d and a sign", i, n), open(n, 5), c, id+"-", 1, api.OK)
			joins(t, fmt.Sprintf("member %d of %d less a sign", i, n), open(n, 5), c, id[:5], 1, api.OK)
		}
	}
}

func TestJoinAtCount(t *testing.T) {
	for count := 1; count <= 64; count++ {
		c := api.Caps{Count: count, Weight: 1000}
		for n := range 65 {
			want := api.OK
			if n >= count {
				want = api.ErrFull
			}
			for _, weight := range []int64{0, 1} {
				joins(t, fmt.Sprintf("%d members, Count %d", n, count), open(n, 5), c, "x", weight, want)
			}
		}
	}
}

func TestJoinAtWeight(t *testing.T) {
	for _, most := range []int64{1, 2, 7, 500, 1 << 32, 1<<32 + 7, 999999999999, 1000000000000} {
		c := api.Caps{Count: 64, Weight: most}
		for _, has := range []int64{0, 1, 6, 499, most / 2, most - 1, most} {
			if has > most {
				continue
			}
			for _, n := range []int{1, 2, 63} {
				what := fmt.Sprintf("%d members of %d, caps' weight %d", n, has, most)
				b := open(n, has)
				joins(t, what+", 0", b, c, "x", 0, api.OK)
				joins(t, what+", up to it", b, c, "x", most-has, api.OK)
				joins(t, what+", one above", b, c, "x", most-has+1, api.ErrFull)
				for _, weight := range []int64{1000000000000 + 1 - has, 1000000000001, 1 << 40, 1 << 62, math.MaxInt64 - 1000000000000, math.MaxInt64 - has, math.MaxInt64 - 1, math.MaxInt64} {
					joins(t, fmt.Sprintf("%s, %d", what, weight), b, c, "x", weight, api.ErrFull)
				}
			}
		}
	}
}

// TestJoinAboveWeightAlready: a batch may be heavier than the caps; then it has room for none, be it of no weight.
func TestJoinAboveWeightAlready(t *testing.T) {
	c := api.Caps{Count: 64, Weight: 10}
	for _, has := range []int64{11, 12, 1 << 32, 1000000000000} {
		for _, weight := range []int64{0, 1, 1000000000000, math.MaxInt64} {
			joins(t, fmt.Sprintf("%d and %d", has, weight), open(1, has), c, "x", weight, api.ErrFull)
		}
	}
}

// TestJoinOfEmpty: an empty batch takes any weight that can be told together with its own, whatever the caps' weight.
func TestJoinOfEmpty(t *testing.T) {
	for _, most := range []int64{1, 10, 999999999999, 1000000000000} {
		c := api.Caps{Count: 1, Weight: most}
		for _, has := range []int64{0, 1, 10, 11, 1 << 32, 999999999999, 1000000000000} {
			b := open(0, has)
			left := 1000000000000 - has
			what := fmt.Sprintf("has %d, caps' weight %d", has, most)
			for _, weight := range []int64{0, 1, left / 2, left - 1, left} {
				if weight >= 0 && weight <= left {
					joins(t, fmt.Sprintf("%s, %d", what, weight), b, c, "x", weight, api.OK)
				}
			}
			for _, weight := range []int64{left + 1, left + 2, 1000000000001, 1 << 40, 1 << 62, math.MaxInt64 - has, math.MaxInt64} {
				joins(t, fmt.Sprintf("%s, %d", what, weight), b, c, "x", weight, api.ErrFull)
			}
		}
	}
}

// TestFirstErrorOfJoin: where several errors apply, the first one that the promise names is told.
func TestFirstErrorOfJoin(t *testing.T) {
	c := api.Caps{Count: 3, Weight: 300}
	closed := with(func(b *api.Batch) { b.Phase = api.Out })
	for what, x := range map[string]struct {
		b      api.Batch
		id     string
		weight int64
		want   api.Errno
	}{
		"closed, no label, full":      {closed, "A", 1, api.ErrClosed},
		"closed, a member, full":      {closed, "a", 1, api.ErrClosed},
		"closed, full":                {closed, "x", 1, api.ErrClosed},
		"closed, above what can be":   {closed, "x", math.MaxInt64, api.ErrClosed},
		"no label, full":              {some(), "A", 1, api.ErrMember},
		"a member, full":              {some(), "a", 1, api.ErrMember},
		"a member, above what can be": {some(), "β", math.MaxInt64, api.ErrMember},
		"no label, and empty":         {leanest(), "", math.MaxInt64, api.ErrMember},
		"full":                        {some(), "x", 1, api.ErrFull},
	} {
		joins(t, what, x.b, c, x.id, x.weight, x.want)
	}
}

func TestEvict(t *testing.T) {
	for id, left := range map[string][]string{"o-7": {"β", "a"}, "β": {"o-7", "a"}, "a": {"o-7", "β"}} {
		b, errno := Evict(some(), id, 100)
		want := api.Batch{Id: 3, Weight: 200, Born: 5, Kind: 2, Phase: 1, Group: api.Group{Carrier: "ups", Zone: "n", Service: "fast"}, Members: left}
		if errno != api.OK || !Same(b, want) {
			t.Errorf("%s: %v %d", id, b, errno)
		}
	}
}

func TestEvictOfEachMember(t *testing.T) {
	for n := range 65 {
		b := open(n, 1000)
		for i, id := range b.Members {
			evicts(t, fmt.Sprintf("member %d of %d", i, n), b, id, 10, api.OK)
		}
		for _, id := range []string{"x", "o", "o0000", "o00000-", "", "O00000", wrongLabels[len(wrongLabels)-1]} {
			evicts(t, fmt.Sprintf("%.20q of %d members", id, n), b, id, 10, api.ErrMember)
		}
	}
}

func TestEvictAtEachPhase(t *testing.T) {
	for kind := 1; kind <= 2; kind++ {
		for phase, want := range map[int]api.Errno{api.Open: api.OK, api.Out: api.ErrClosed, api.Done: api.ErrClosed} {
			b := with(func(b *api.Batch) { b.Kind, b.Phase = kind, phase })
			evicts(t, fmt.Sprintf("kind %d, phase %d", kind, phase), b, "β", 1, want)
			if phase != api.Open {
				evicts(t, fmt.Sprintf("kind %d, phase %d, no member", kind, phase), b, "x", 1, api.ErrClosed)
			}
		}
	}
}

func TestEvictOfWeights(t *testing.T) {
	for _, has := range []int64{0, 1, 7, 1 << 32, 999999999999, 1000000000000} {
		for _, weight := range []int64{0, 1, has / 2, has - 1, has, has + 1, 1000000000000, 1000000000001, 1 << 40, 1 << 62, math.MaxInt64 - 1, math.MaxInt64} {
			if weight >= 0 {
				evicts(t, fmt.Sprintf("%d less %d", has, weight), open(2, has), ids(2)[1], weight, api.OK)
				evicts(t, fmt.Sprintf("%d less %d, alone", has, weight), open(1, has), ids(1)[0], weight, api.OK)
			}
		}
	}
}

// TestJoinThenEvict: who joined and is evicted again leaves the batch as it was.
func TestJoinThenEvict(t *testing.T) {
	c := api.Caps{Count: 64, Weight: 1000000000000}
	for n := range 64 {
		b := open(n, 77)
		joined, first := Join(b, c, "x", 9)
		left, second := Evict(joined, "x", 9)
		if first != api.OK || second != api.OK || !Same(left, b) || Same(joined, b) {
			t.Errorf("%d members: %v", n, left)
		}
	}
}

func TestFull(t *testing.T) {
	for _, most := range []int64{1, 2, 500, 1 << 32, 999999999999, 1000000000000} {
		for count := 1; count <= 64; count++ {
			c := api.Caps{Count: count, Weight: most}
			for _, n := range []int{0, 1, count - 1, count, min(count+1, 64), 64} {
				for _, weight := range []int64{0, 1, most - 1, most, min(most+1, 1000000000000), 1000000000000} {
					for phase := 1; phase <= 3; phase++ {
						b := open(n, weight)
						b.Phase = phase
						if got := Full(b, c); got != (n >= count || weight >= most) {
							t.Errorf("%d members of %d, weight %d of %d: %v", n, count, weight, most, got)
						}
					}
				}
			}
		}
	}
}

func TestPart(t *testing.T) {
	for i, b := range rightBatches() {
		for _, members := range [][]string{nil, {}, {"x"}, {"β"}, ids(2), ids(64), b.Members} {
			for _, id := range []int64{1, 9, 1000000000000} {
				for _, weight := range []int64{0, 4, 1000000000000} {
					want := api.Batch{Id: id, Weight: weight, Born: b.Born, Kind: b.Kind, Phase: 2, Group: b.Group, Members: members}
					if got := Part(b, id, members, weight); !Same(got, want) || !Right(got) {
						t.Fatalf("batch %d, %d members: %v, want %v", i, len(members), got, want)
					}
				}
			}
		}
	}
}

func TestAnswersShareNoMemory(t *testing.T) {
	for _, n := range []int{0, 1, 2, 3, 7, 8, 63, 64} {
		b := open(n, 100)
		asked := func(members []string) api.Batch {
			x := b
			x.Members = members
			return x
		}
		join := func(c api.Caps, id string, change func(*api.Batch)) func([]string) api.Batch {
			return func(members []string) api.Batch {
				x := asked(members)
				change(&x)
				x, _ = Join(x, c, id, 1)
				return x
			}
		}
		evict := func(id string, change func(*api.Batch)) func([]string) api.Batch {
			return func(members []string) api.Batch {
				x := asked(members)
				change(&x)
				x, _ = Evict(x, id, 1)
				return x
			}
		}
		stay := func(*api.Batch) {}
		goOut := func(x *api.Batch) { x.Phase = api.Out }
		wide, narrow := api.Caps{Count: 64, Weight: 1000000000000}, api.Caps{Count: 1, Weight: 1}
		for what, ask := range map[string]func([]string) api.Batch{
			"Join":                 join(wide, "x", stay),
			"Join of who is full":  join(narrow, "x", stay),
			"Join of no label":     join(wide, "X", stay),
			"Join of one Out":      join(wide, "x", goOut),
			"Evict of none":        evict("x", stay),
			"Evict of one Out":     evict("x", goOut),
			"Part of its own":      func(l []string) api.Batch { return Part(asked(l), 9, l, 1) },
			"Part of the first":    func(l []string) api.Batch { return Part(asked(l), 9, l[:n/2], 1) },
			"Part of who is last":  func(l []string) api.Batch { return Part(asked(l), 9, l[n/2:], 1) },
			"Part of other's list": func(l []string) api.Batch { return Part(some(), 9, l, 1) },
		} {
			ownMembers(t, fmt.Sprintf("%s, %d members", what, n), b.Members, ask)
		}
		for _, id := range b.Members {
			ownMembers(t, fmt.Sprintf("Evict of %s, %d members", id, n), b.Members, evict(id, stay))
		}
	}
}

// TestTwoJoinOne: of one batch two may be made by two who join, and neither is laid over the other.
func TestTwoJoinOne(t *testing.T) {
	c := api.Caps{Count: 64, Weight: 1000000000000}
	b := leanest()
	for _, id := range ids(60) {
		first, _ := Join(b, c, "first", 1)
		second, _ := Join(b, c, "second", 1)
		want := append(slices.Clone(b.Members), "first")
		if !slices.Equal(first.Members, want) || second.Members[len(b.Members)] != "second" {
			t.Fatalf("%v, %v", first, second)
		}
		b, _ = Join(b, c, id, 1)
	}
}

// TestWaysHoldToTheWords: batches by chance, through many joins and evictions, some of them wrong.
func TestWaysHoldToTheWords(t *testing.T) {
	chance := rand.New(rand.NewSource(11))
	told := map[api.Errno]int{}
	for range 300 {
		c := api.Caps{Count: 1 + chance.Intn(64), Weight: 1 + chance.Int63n(5000)}
		b := open(0, 0)
		for range 200 {
			id := fmt.Sprintf("o%d", chance.Intn(90))
			if chance.Intn(30) == 0 {
				id = wrongLabels[chance.Intn(len(wrongLabels))]
			}
			weight := chance.Int63n(200)
			if chance.Intn(20) == 0 {
				weight = 1000000000000 - b.Weight + chance.Int63n(3) - 1
			}
			b.Phase = 1 + max(0, chance.Intn(30)-27)
			ask, byWords := Evict, evictByWords
			if chance.Intn(3) > 0 {
				ask = func(b api.Batch, id string, weight int64) (api.Batch, api.Errno) { return Join(b, c, id, weight) }
				byWords = func(b api.Batch, id string, weight int64) (api.Batch, api.Errno) {
					return joinByWords(b, c, id, weight)
				}
			}
			was := slices.Clone(b.Members)
			got, errno := ask(b, id, weight)
			want, wantErrno := byWords(b, id, weight)
			if errno != wantErrno || !Same(got, want) || !slices.Equal(was, b.Members) || !Right(got) {
				t.Fatalf("%v and %q of %d: %v %d, want %v %d", b, id, weight, got, errno, want, wantErrno)
			}
			told[errno]++
			b = got
		}
	}
	for _, errno := range []api.Errno{api.OK, api.ErrFull, api.ErrMember, api.ErrClosed} {
		if told[errno] < 1000 {
			t.Errorf("error %d came %d times alone", errno, told[errno])
		}
	}
}

// TestWrongBatchesEnd: of batches, caps and weights that can't be nothing is promised, but that the calls answer.
func TestWrongBatchesEnd(t *testing.T) {
	weights := append([]int64{0, 1, 1000000000000}, wrongTallies...)
	for i, b := range append(rightBatches(), wrongBatches()...) {
		for j, c := range someCaps() {
			weight := weights[(i+j)%len(weights)]
			for _, id := range append(slices.Clone(b.Members[:min(2, len(b.Members))]), "new", "", "A") {
				Join(b, c, id, weight)
				Evict(b, id, weight)
				Part(b, weight, b.Members, weight)
			}
			Full(b, c)
		}
	}
	many := with(func(b *api.Batch) { b.Members = make([]string, 1<<20) })
	if Right(many) || Same(many, some()) || !Full(many, someCaps()[0]) {
		t.Error("many Members")
	}
	Join(many, someCaps()[0], "x", 1)
	Evict(many, "", 1)
	Part(some(), 1, many.Members, 1)
}
