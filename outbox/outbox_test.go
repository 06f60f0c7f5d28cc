package outbox

import (
	"fmt"
	"math"
	"regexp"
	"slices"
	"strings"
	"testing"

	"packhorse/api"
)

var rightLabels = []string{
	"a", "z", "α", "ω", "ς", "a-", "a0", "o-7", "βox-9", "a---------------", "α---------------", "a123456789012345",
	"abcdefghijklmnop", "αβγδεζηθικλμνξοπ", "aβγδεζηθικλμνξοπ", "ωωωωωωωωωωωωωωωω",
}

var wrongLabels = []string{
	"", " ", "A", "aB", "9", "-", "9a", "-a", "a b", "a ", " a", "a_", "a\n", "a\x00", "\x00", "é", "Ω", "\u03b0", "\u03ca", "\xff", "a\xff", "\xce", "a\xce", "\xb1",
	"abcdefghijklmnopq", "αβγδεζηθικλμνξοπρ", "aβγδεζηθικλμνξοπρ", "a----------------", strings.Repeat("a", 32), strings.Repeat("a", 33), strings.Repeat("ω", 64), strings.Repeat("a", 1<<16),
}

var rightNumbers = []int64{1, 2, 127, 128, 16383, 16384, 1 << 32, 999999999999, 1000000000000}

var wrongNumbers = []int64{math.MinInt64, math.MinInt64 + 1, -1 << 40, -1000000000001, -1000000000000, -1 << 32, -2, -1, 1000000000001, 1000000000002, 1 << 40, 1<<40 + 1, 1 << 62, math.MaxInt64 - 1, math.MaxInt64}

var rightTicks = []int64{0, 1, 2, 95, 96, 127, 128, 1 << 32, 1000000000001, 1<<40 - 64, 1<<40 - 1, 1 << 40}

var wrongTicks = []int64{math.MinInt64, math.MinInt64 + 1, -1 << 40, -1 << 32, -2, -1, 1<<40 + 1, 1<<40 + 2, 1 << 41, 1 << 62, math.MaxInt64 - 1, math.MaxInt64}

var rightTries = []int{0, 1, 2, 5, 6, 7, 63, 64, 127, 128, 65536, 999999, 1000000}

var wrongTries = []int{math.MinInt, math.MinInt + 1, -1000000, -1 << 32, -2, -1, 1000001, 1000002, 1 << 32, 1<<32 + 1, math.MaxInt - 1, math.MaxInt}

var wrongKinds = []int{math.MinInt, -1 << 32, -256, -2, -1, 0, 8, 9, 10, 1<<8 + 1, 1<<16 + 3, 1<<32 + 1, 1<<32 + 7, math.MaxInt}

// ofOrder and ofBatch are the kinds' numbers by the chapter's own words.
var ofOrder, ofBatch = []int{1, 2, 5, 6, 7}, []int{3, 4}

func forOrder(kind int, order string) api.Effect {
	return api.Effect{Key: 5, Kind: kind, Order: order, Due: 7, Tries: 2}
}

func forBatch(kind int, batch int64) api.Effect {
	return api.Effect{Key: 5, Kind: kind, Batch: batch, Due: 7, Tries: 2}
}

// some has gaps between its keys, and effects that are due at once and out of their order.
func some() []api.Effect {
	return []api.Effect{
		{Key: 2, Kind: api.Reserve, Order: "a", Due: 5},
		{Key: 3, Kind: api.Pick, Batch: 9, Due: 30, Tries: 3},
		{Key: 8, Kind: api.Void, Order: "β", Due: 9, Tries: 6},
		{Key: 200, Kind: api.Transmit, Batch: 1, Due: 5, Tries: 999999},
		{Key: 1000000000000, Kind: api.Release, Order: "ωωωωωωωωωωωωωωωω", Due: 1 << 40, Tries: 1000000},
	}
}

// many is an outbox of n effects with a gap ahead of each key.
func many(n int) []api.Effect {
	var l []api.Effect
	for i := range n {
		e := api.Effect{Key: int64(2*i + 2), Kind: i%7 + 1, Due: int64(i * 7919 % 1000), Tries: i % 9}
		if slices.Contains(ofBatch, e.Kind) {
			e.Batch = int64(i + 1)
		} else {
			e.Order = fmt.Sprint("o-", i)
		}
		l = append(l, e)
	}
	return l
}

// rightEffects are such as can be, each edge of each part among them.
func rightEffects() []api.Effect {
	var l []api.Effect
	for _, kind := range ofOrder {
		for _, s := range rightLabels {
			l = append(l, forOrder(kind, s))
		}
	}
	for _, kind := range ofBatch {
		for _, n := range rightNumbers {
			l = append(l, forBatch(kind, n))
		}
	}
	for _, e := range []api.Effect{forOrder(1, "a"), forBatch(4, 9)} {
		add := func(change func(e *api.Effect)) {
			x := e
			change(&x)
			l = append(l, x)
		}
		for _, n := range rightNumbers {
			add(func(e *api.Effect) { e.Key = n })
		}
		for _, n := range rightTicks {
			add(func(e *api.Effect) { e.Due = n })
		}
		for _, n := range rightTries {
			add(func(e *api.Effect) { e.Tries = n })
		}
	}
	return l
}

// wrongEffects are such that one thing alone is wrong with each.
func wrongEffects() []api.Effect {
	var l []api.Effect
	for _, kind := range ofOrder {
		for _, s := range wrongLabels {
			l = append(l, forOrder(kind, s))
		}
		for _, n := range append(append([]int64{}, rightNumbers...), wrongNumbers...) {
			e := forOrder(kind, "a")
			e.Batch = n
			l = append(l, e)
		}
	}
	for _, kind := range ofBatch {
		for _, n := range append([]int64{0}, wrongNumbers...) {
			l = append(l, forBatch(kind, n))
		}
		for _, s := range append(append([]string{}, rightLabels...), wrongLabels[1:]...) {
			e := forBatch(kind, 9)
			e.Order = s
			l = append(l, e)
		}
	}
	for _, e := range []api.Effect{forOrder(2, "a"), forBatch(3, 9)} {
		add := func(change func(e *api.Effect)) {
			x := e
			change(&x)
			l = append(l, x)
		}
		for _, n := range append([]int64{0}, wrongNumbers...) {
			add(func(e *api.Effect) { e.Key = n })
		}
		for _, n := range wrongTicks {
			add(func(e *api.Effect) { e.Due = n })
		}
		for _, n := range wrongTries {
			add(func(e *api.Effect) { e.Tries = n })
		}
		for _, n := range wrongKinds {
			add(func(e *api.Effect) { e.Kind = n })
		}
	}
	return append(l, api.Effect{})
}

func outboxes() [][]api.Effect {
	lists := [][]api.Effect{nil, {}, some(), many(1), many(2), many(3), many(4), many(9), many(64), many(300), some()[:0]}
	for _, e := range rightEffects() {
		lists = append(lists, []api.Effect{e})
		if e.Key > 2 && e.Key < 900000000000 {
			lists = append(lists, []api.Effect{{Key: e.Key - 1, Kind: 1, Order: "z"}, e, {Key: e.Key + 1, Kind: 4, Batch: 4}})
		}
	}
	return lists
}

// wrongLists are no outboxes: an effect can't be, first, last, in the middle or alone, or keys don't rise.
func wrongLists() [][]api.Effect {
	var lists [][]api.Effect
	for _, e := range wrongEffects() {
		ahead := api.Effect{Key: 1, Kind: 3, Batch: 1}
		behind := api.Effect{Key: 1000000000000, Kind: 2, Order: "z"}
		lists = append(lists, []api.Effect{e}, []api.Effect{ahead, e}, []api.Effect{e, behind}, []api.Effect{ahead, e, behind})
	}
	for i := range 9 {
		for _, less := range []int64{2, 3, 4} {
			l := many(10)
			l[i+1].Key -= less
			lists = append(lists, l)
		}
		l := many(10)
		l[i], l[i+1] = l[i+1], l[i]
		lists = append(lists, l)
	}
	backward := many(10)
	slices.Reverse(backward)
	twice := append(many(10), many(10)...)
	return append(lists, backward, twice, append(some(), some()[0]), []api.Effect{some()[0], some()[0]})
}

var labelByWords = regexp.MustCompile(`\A[a-zα-ω][a-zα-ω0-9-]{0,15}\z`)

func within(n, least, most int64) bool { return n >= least && n <= most }

// effectByWords goes by the chapter's own words, and by those of the layers that it names.
func effectByWords(e api.Effect) bool {
	if !within(e.Key, 1, 1e12) || !within(e.Due, 0, 1<<40) || !within(int64(e.Tries), 0, 1e6) || !within(int64(e.Kind), 1, 7) {
		return false
	}
	if slices.Contains(ofBatch, e.Kind) {
		return within(e.Batch, 1, 1e12) && e.Order == ""
	}
	return e.Batch == 0 && labelByWords.MatchString(e.Order)
}

func rightByWords(l []api.Effect) bool {
	for i, e := range l {
		for _, ahead := range l[:i] {
			if ahead.Key >= e.Key {
				return false
			}
		}
		if !effectByWords(e) {
			return false
		}
	}
	return true
}

func TestRight(t *testing.T) {
	for i, l := range outboxes() {
		if !Right(l) || !rightByWords(l) {
			t.Errorf("outbox %d, %.300s: Right %v, by the words %v", i, fmt.Sprint(l), Right(l), rightByWords(l))
		}
	}
	for i, l := range wrongLists() {
		if Right(l) || rightByWords(l) {
			t.Errorf("list %d, %.300s: Right %v, by the words %v", i, fmt.Sprint(l), Right(l), rightByWords(l))
		}
	}
}

func TestRightOfNone(t *testing.T) {
	if !Right(nil) || !Right([]api.Effect{}) || !Right(some()[:0]) {
		t.Error("none is an outbox")
	}
	if Right([]api.Effect{{}}) {
		t.Error("an effect of nothing but noughts is none")
	}
}

// TestRightAtEachKind: what an effect must have, at each kind.
func TestRightAtEachKind(t *testing.T) {
	for kind := -20; kind <= 300; kind++ {
		for _, batch := range []int64{-1, 0, 1, 1000000000000, 1000000000001} {
			for order, isLabel := range map[string]bool{"": false, "a": true, "αβγδεζηθικλμνξοπ": true, "abcdefghijklmnopq": false, "A": false, "a b": false} {
				want := false
				switch kind {
				case 1, 2, 5, 6, 7:
					want = batch == 0 && isLabel
				case 3, 4:
					want = batch >= 1 && batch <= 1000000000000 && order == ""
				}
				if got := Right([]api.Effect{{Key: 1, Kind: kind, Batch: batch, Order: order}}); got != want {
					t.Errorf("kind %d, batch %d, order %q: %v", kind, batch, order, got)
				}
			}
		}
	}
}

// TestRightAtEachTwoKeys: keys rise, each once.
func TestRightAtEachTwoKeys(t *testing.T) {
	for _, a := range rightNumbers {
		for _, b := range rightNumbers {
			l := []api.Effect{{Key: a, Kind: 1, Order: "b"}, {Key: b, Kind: 1, Order: "a"}}
			if got := Right(l); got != (a < b) {
				t.Errorf("keys %d and %d: %v", a, b, got)
			}
		}
	}
	for i := range 40 {
		for j := range 40 {
			l := many(40)
			l[i].Key = l[j].Key
			if Right(l) != (i == j) {
				t.Errorf("the key %d as the key %d", i, j)
			}
		}
	}
}

// TestRightAtEachPlace: one effect that can't be makes no outbox, wherever it stands.
func TestRightAtEachPlace(t *testing.T) {
	for i := range 60 {
		for _, change := range []func(*api.Effect){
			func(e *api.Effect) { e.Due = -1 },
			func(e *api.Effect) { e.Tries = 1000001 },
			func(e *api.Effect) { e.Kind = 0 },
			func(e *api.Effect) { e.Order, e.Batch = "a", 1 },
			func(e *api.Effect) { e.Order, e.Batch = "", 0 },
		} {
			l := many(60)
			change(&l[i])
			if Right(l) {
				t.Errorf("place %d: %v", i, l[i])
			}
		}
	}
}

func TestBackoff(t *testing.T) {
	for tries, want := range map[int]int64{
		math.MinInt: 1, math.MinInt + 1: 1, -1 << 32: 1, -64: 1, -7: 1, -2: 1, -1: 1,
		0: 1, 1: 2, 2: 4, 3: 8, 4: 16, 5: 32, 6: 64,
		7: 64, 8: 64, 62: 64, 63: 64, 64: 64, 65: 64, 256: 64, 1 << 16: 64, 1000000: 64, 1 << 32: 64, 1<<32 + 1: 64, math.MaxInt - 1: 64, math.MaxInt: 64,
	} {
		if got := Backoff(tries); got != want {
			t.Errorf("Backoff of %d: %d, want %d", tries, got, want)
		}
	}
}

// finds asks for a key of any list, and holds the answer against a walk through it.
func finds(t *testing.T, what string, l []api.Effect, key int64) {
	t.Helper()
	var want api.Effect
	errno := api.ErrKey
	for _, e := range l {
		if e.Key == key {
			want, errno = e, api.OK
		}
	}
	if got, e := Find(l, key); got != want || e != errno {
		t.Errorf("%s: Find of %d: %v %d, want %v %d", what, key, got, e, want, errno)
	}
}

func TestFind(t *testing.T) {
	l := some()
	for i, key := range []int64{2, 3, 8, 200, 1000000000000} {
		if e, errno := Find(l, key); e != l[i] || errno != api.OK {
			t.Errorf("Find of %d: %v %d", key, e, errno)
		}
	}
	for _, key := range []int64{math.MinInt64, -8, -1, 0, 1, 4, 7, 9, 199, 201, 999999999999, 1000000000001, 1<<32 + 2, math.MaxInt64} {
		if e, errno := Find(l, key); e != (api.Effect{}) || errno != 131 {
			t.Errorf("Find of %d, which isn't there: %v %d", key, e, errno)
		}
		for _, none := range [][]api.Effect{nil, {}, l[:0]} {
			if e, errno := Find(none, key); e != (api.Effect{}) || errno != api.ErrKey {
				t.Errorf("Find of %d among none: %v %d", key, e, errno)
			}
		}
	}
}

// TestFindAtEachPlace: each key, and each gap, of outboxes of each length.
func TestFindAtEachPlace(t *testing.T) {
	for n := range 70 {
		l := many(n)
		for key := int64(-2); key <= int64(2*n+4); key++ {
			finds(t, fmt.Sprint(n, " effects"), l, key)
		}
	}
	for i, l := range outboxes() {
		for _, e := range l {
			for d := int64(-1); d <= 1; d++ {
				finds(t, fmt.Sprint("outbox ", i), l, e.Key+d)
			}
		}
	}
}

// TestFindInALongOutbox would not end for long, were the list gone through at each asking.
func TestFindInALongOutbox(t *testing.T) {
	l := make([]api.Effect, 1<<20)
	for i := range l {
		l[i] = api.Effect{Key: int64(3*i + 1), Kind: api.Pick, Batch: int64(i + 1)}
	}
	for i := range 1 << 20 {
		if e, errno := Find(l, int64(3*i+1)); e != l[i] || errno != api.OK {
			t.Fatalf("place %d: %v %d", i, e, errno)
		}
		if e, errno := Find(l, int64(3*i+2)); e != (api.Effect{}) || errno != api.ErrKey {
			t.Fatalf("behind place %d: %v %d", i, e, errno)
		}
	}
}

func TestDue(t *testing.T) {
	for now, want := range map[int64][]int64{
		math.MinInt64: nil, -1: nil, 0: nil, 4: nil,
		5: {2, 200}, 6: {2, 200}, 8: {2, 200},
		9: {2, 8, 200}, 10: {2, 8, 200}, 29: {2, 8, 200},
		30: {2, 3, 8, 200}, 31: {2, 3, 8, 200}, 1<<32 + 4: {2, 3, 8, 200}, 1<<40 - 1: {2, 3, 8, 200},
		1 << 40: {2, 3, 8, 200, 1000000000000}, 1<<40 + 1: {2, 3, 8, 200, 1000000000000}, math.MaxInt64: {2, 3, 8, 200, 1000000000000},
	} {
		var got []int64
		for _, e := range Due(some(), now) {
			if f, errno := Find(some(), e.Key); f != e || errno != api.OK {
				t.Errorf("at %d: %v isn't there", now, e)
			}
			got = append(got, e.Key)
		}
		if !slices.Equal(got, want) {
			t.Errorf("Due at %d: %v, want %v", now, got, want)
		}
		for _, none := range [][]api.Effect{nil, {}, some()[:0]} {
			if d := Due(none, now); len(d) != 0 {
				t.Errorf("Due of none at %d: %v", now, d)
			}
		}
	}
}

// dueByWords goes backward, so that it can't lose its order in the same way.
func dueByWords(l []api.Effect, now int64) []api.Effect {
	var due []api.Effect
	for i := len(l) - 1; i >= 0; i-- {
		if l[i].Due == now || l[i].Due < now {
			due = slices.Insert(due, 0, l[i])
		}
	}
	return due
}

func TestDueHoldsToTheWords(t *testing.T) {
	for i, l := range outboxes() {
		times := []int64{math.MinInt64, 0, 1 << 40, math.MaxInt64}
		for _, e := range l {
			times = append(times, e.Due-1, e.Due, e.Due+1)
		}
		for _, now := range times {
			if got, want := Due(l, now), dueByWords(l, now); !slices.Equal(got, want) {
				t.Errorf("outbox %d at %d: %v, want %v", i, now, got, want)
			}
		}
	}
}

// kept lays a list into memory with room behind it, and tells whether all of that is still as it was.
func kept(l []api.Effect) (given []api.Effect, asItWas func() bool) {
	room := append(slices.Clone(l), api.Effect{Key: 77, Kind: 3, Batch: 1}, api.Effect{}, api.Effect{Order: "spare"})
	was := slices.Clone(room)
	return room[:len(l)], func() bool { return slices.Equal(room, was) }
}

// scribble writes over a list and lays something behind it, spare room too.
func scribble(l []api.Effect) {
	_ = append(l, api.Effect{Order: "behind"})
	for i := range l[:cap(l)] {
		l[:cap(l)][i] = api.Effect{Key: -1, Order: "scribble"}
	}
}

// ownEffects holds an answer that was asked for twice against memory: neither shares any with the other one or with what came in, and what came in stays.
func ownEffects(t *testing.T, what string, l []api.Effect, ask func(l []api.Effect) []api.Effect) {
	t.Helper()
	given, asItWas := kept(l)
	want := slices.Clone(ask(slices.Clone(l)))
	first, second := ask(given), ask(given)
	if !slices.Equal(first, want) || !slices.Equal(second, want) || !asItWas() {
		t.Errorf("%s: %.300s, want %.300s", what, fmt.Sprint(first), fmt.Sprint(want))
	}
	scribble(first)
	if !slices.Equal(second, want) || !asItWas() {
		t.Errorf("%s: an answer shares memory", what)
	}
	scribble(given)
	if !slices.Equal(second, want) {
		t.Errorf("%s: what was handed in is kept", what)
	}
}

func TestDueSharesNoMemory(t *testing.T) {
	for i, l := range outboxes() {
		for _, now := range []int64{-1, 5, 9, 1 << 40} {
			ownEffects(t, fmt.Sprintf("Due of outbox %d at %d", i, now), l, func(l []api.Effect) []api.Effect { return Due(l, now) })
		}
	}
}

// TestListsStay: what is asked of a list leaves it as it was, spare room too, be it an outbox or not.
func TestListsStay(t *testing.T) {
	for i, l := range append(outboxes(), wrongLists()...) {
		given, asItWas := kept(l)
		Right(given)
		Put(nil, given)
		for _, e := range append(some(), l[:min(len(l), 3)]...) {
			Find(given, e.Key)
			Due(given, e.Due)
			Add(given, e)
			Sent(given, e.Key, e.Due)
			Settle(given, e.Key)
		}
		if !asItWas() {
			t.Errorf("list %d: changed", i)
		}
	}
}

// TestAnswersStay: P1 and P2 for this layer: nothing makes a call panic, and a second asking is answered like the first.
func TestAnswersStay(t *testing.T) {
	lists := append(outboxes(), wrongLists()...)
	effects := append(rightEffects(), wrongEffects()...)
	numbers := slices.Concat([]int64{0}, rightNumbers, wrongNumbers, rightTicks, wrongTicks)
	tries := slices.Concat(rightTries, wrongTries)
	tell := func(i int) string {
		l, e := lists[i], effects[i%len(effects)]
		n, now := numbers[i%len(numbers)], numbers[i*7%len(numbers)]
		if len(l) > 0 && i%2 == 0 {
			n = l[i%len(l)].Key
		}
		added, addErrno := Add(l, e)
		found, findErrno := Find(l, n)
		sent, sentErrno := Sent(l, n, now)
		settled, settleErrno := Settle(l, n)
		put := Put([]byte("ahead"), l)
		x, ok := taken(put[len("ahead"):])
		return fmt.Sprint(Right(l), added, addErrno, found, findErrno, Due(l, now), sent, sentErrno, settled, settleErrno, Backoff(tries[i%len(tries)]), put, x, ok)
	}
	var first []string
	for i := range lists {
		first = append(first, tell(i))
	}
	for i := len(lists) - 1; i >= 0; i-- {
		if tell(i) != first[i] {
			t.Errorf("list %d: answered otherwise", i)
		}
	}
}
