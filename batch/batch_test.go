package batch

import (
	"fmt"
	"math"
	"reflect"
	"regexp"
	"slices"
	"strings"
	"testing"

	"packhorse/api"
)

var rightLabels = []string{
	"a", "z", "α", "ω", "ς", "a-", "a0", "o-7", "βox-9", "a---------------", "α---------------", "a123456789012345",
	"abcdefghijklmnop", "αβγδεζηθικλμνξοπ", "aβγδεζηθικλμνξοπ", "ωωωωωωωωωωωωωωωω",
}

var wrongLabels = []string{
	"", " ", "A", "aB", "9", "-", "9a", "-a", "a b", "a ", " a", "a_", "a\n", "a\x00", "\x00", "é", "Ω", "\u03b0", "\u03ca", "\xff", "a\xff", "\xce", "a\xce", "\xb1",
	"abcdefghijklmnopq", "αβγδεζηθικλμνξοπρ", "aβγδεζηθικλμνξοπρ", "a----------------", strings.Repeat("a", 32), strings.Repeat("a", 33), strings.Repeat("ω", 64), strings.Repeat("a", 1<<16),
}

var wrongTallies = []int64{math.MinInt64, math.MinInt64 + 1, -1 << 40, -1000000000001, -1000000000000, -1 << 32, -2, -1, 1000000000001, 1000000000002, 1 << 40, 1<<40 + 1, 1 << 62, math.MaxInt64 - 1, math.MaxInt64}

var wrongTicks = []int64{math.MinInt64, math.MinInt64 + 1, -1 << 40, -1 << 32, -2, -1, 1<<40 + 1, 1<<40 + 2, 1 << 41, 1 << 62, math.MaxInt64 - 1, math.MaxInt64}

var wrongKinds = []int{math.MinInt, -1 << 32, -256, -2, -1, 0, 3, 4, 5, 1<<8 + 1, 1<<16 + 2, 1<<32 + 1, 1<<32 + 2, math.MaxInt}

var wrongPhases = []int{math.MinInt, -1 << 32, -256, -3, -2, -1, 0, 4, 5, 6, 1<<8 + 1, 1<<16 + 2, 1<<32 + 1, 1<<32 + 3, math.MaxInt}

// ids are n unlike labels.
func ids(n int) []string {
	var l []string
	for i := range n {
		l = append(l, fmt.Sprintf("o%05d", i*7919%100000))
	}
	return l
}

// wrongMembers are lists that are no batch's Members.
func wrongMembers() [][]string {
	lists := [][]string{
		ids(65), ids(66), ids(128), ids(256), ids(1 << 12),
		{"a", "a"}, {"a", "a", "b"}, {"a", "b", "a"}, {"b", "a", "a"}, {"ω", "a", "b", "ω"}, {"a", "b", "b", "a"},
		append(ids(63), ids(1)...), append(ids(63), ids(63)[62]), append(ids(64), ids(1)...),
	}
	for _, s := range wrongLabels {
		lists = append(lists, []string{s}, []string{s, "b", "c"}, []string{"b", s, "c"}, []string{"b", "c", s}, append(ids(63), s))
	}
	for i := range 64 {
		l := ids(64)
		l[i] = l[(i+17)%64]
		lists = append(lists, l)
	}
	return lists
}

func some() api.Batch {
	return api.Batch{Id: 3, Weight: 300, Born: 5, Kind: api.Manifest, Phase: api.Open, Group: api.Group{Carrier: "ups", Zone: "n", Service: "fast"}, Members: []string{"o-7", "β", "a"}}
}

// with is some batch in which something is changed.
func with(change func(*api.Batch)) api.Batch {
	b := some()
	change(&b)
	return b
}

// fullest has as much of everything as can be.
func fullest() api.Batch {
	b := api.Batch{Id: 1000000000000, Weight: 1000000000000, Born: 1 << 40, Kind: 2, Phase: 3, Group: api.Group{Carrier: "ωωωωωωωωωωωωωωωω", Zone: "αααααααααααααααα", Service: "ςςςςςςςςςςςςςςςς"}}
	for i := range 64 {
		b.Members = append(b.Members, "ωωωωωωωωωωωωωω"+string([]rune{rune('α' + i/8), rune('α' + i%8)}))
	}
	return b
}

func leanest() api.Batch {
	return api.Batch{Id: 1, Kind: 1, Phase: 1, Group: api.Group{Carrier: "c", Zone: "d", Service: "e"}}
}

func rightBatches() []api.Batch {
	batches := []api.Batch{some(), fullest(), leanest()}
	add := func(change func(*api.Batch)) { batches = append(batches, with(change)) }
	for _, s := range rightLabels {
		add(func(b *api.Batch) { b.Group.Carrier = s })
		add(func(b *api.Batch) { b.Group.Zone = s })
		add(func(b *api.Batch) { b.Group.Service = s })
		add(func(b *api.Batch) { b.Group = api.Group{Carrier: s, Zone: s, Service: s} })
		add(func(b *api.Batch) { b.Members = []string{s} })
		add(func(b *api.Batch) { b.Members = []string{"b", s, "c"} })
	}
	for _, n := range []int64{1, 2, 127, 128, 16383, 16384, 1 << 32, 999999999999, 1000000000000} {
		add(func(b *api.Batch) { b.Id = n })
	}
	for _, n := range []int64{0, 1, 127, 128, 16384, 1 << 32, 999999999999, 1000000000000} {
		add(func(b *api.Batch) { b.Weight = n })
	}
	for _, n := range []int64{0, 1, 95, 96, 128, 1 << 32, 1000000000001, 1<<40 - 1, 1 << 40} {
		add(func(b *api.Batch) { b.Born = n })
	}
	for kind := 1; kind <= 2; kind++ {
		for phase := 1; phase <= 3; phase++ {
			add(func(b *api.Batch) { b.Kind, b.Phase = kind, phase })
		}
	}
	for n := range 65 {
		add(func(b *api.Batch) { b.Members = ids(n) })
	}
	for _, l := range [][]string{nil, {}, ids(9)[:0], {"b", "a"}, {"a", "b"}, {"a", "a0", "a00", "a-"}, {"ups", "n", "fast"}} {
		add(func(b *api.Batch) { b.Members = l })
	}
	return batches
}

// wrongBatches are such that one thing alone is wrong with each.
func wrongBatches() []api.Batch {
	batches := []api.Batch{}
	add := func(change func(*api.Batch)) {
		for _, b := range []api.Batch{some(), fullest(), leanest()} {
			change(&b)
			batches = append(batches, b)
		}
	}
	for _, s := range wrongLabels {
		add(func(b *api.Batch) { b.Group.Carrier = s })
		add(func(b *api.Batch) { b.Group.Zone = s })
		add(func(b *api.Batch) { b.Group.Service = s })
	}
	add(func(b *api.Batch) { b.Id = 0 })
	for _, n := range wrongTallies {
		add(func(b *api.Batch) { b.Id = n })
		add(func(b *api.Batch) { b.Weight = n })
	}
	for _, n := range wrongTicks {
		add(func(b *api.Batch) { b.Born = n })
	}
	for _, n := range wrongKinds {
		add(func(b *api.Batch) { b.Kind = n })
	}
	for _, n := range wrongPhases {
		add(func(b *api.Batch) { b.Phase = n })
	}
	for _, l := range wrongMembers() {
		add(func(b *api.Batch) { b.Members = l })
	}
	return append(batches, api.Batch{})
}

var labelByWords = regexp.MustCompile(`\A[a-zα-ω][a-zα-ω0-9-]{0,15}\z`)

func within(n, least, most int64) bool { return n >= least && n <= most }

// rightByWords goes by the chapter's own words, and by those of the layers that it names.
func rightByWords(b api.Batch) bool {
	for _, s := range []string{b.Group.Carrier, b.Group.Zone, b.Group.Service} {
		if !labelByWords.MatchString(s) {
			return false
		}
	}
	seen := map[string]int{}
	for _, s := range b.Members {
		seen[s]++
		if !labelByWords.MatchString(s) || seen[s] > 1 {
			return false
		}
	}
	return len(b.Members) <= 64 && within(b.Id, 1, 1e12) && within(b.Weight, 0, 1e12) && within(b.Born, 0, 1<<40) && within(int64(b.Kind), 1, 2) && within(int64(b.Phase), 1, 3)
}

func TestCaps(t *testing.T) {
	counts := map[int]bool{1: true, 2: true, 3: true, 63: true, 64: true}
	for _, n := range []int{math.MinInt, -1 << 32, -64, -1, 0, 65, 66, 128, 1<<8 + 1, 1<<16 + 1, 1<<32 + 1, 1<<32 + 64, math.MaxInt} {
		counts[n] = false
	}
	weights := map[int64]bool{0: false}
	for _, n := range []int64{1, 2, 1 << 32, 999999999999, 1000000000000} {
		weights[n] = true
	}
	for _, n := range wrongTallies {
		weights[n] = false
	}
	for count, countRight := range counts {
		for weight, weightRight := range weights {
			if got := Caps(api.Caps{Count: count, Weight: weight}); got != (countRight && weightRight) {
				t.Errorf("%d, %d: %v", count, weight, got)
			}
		}
	}
	if Caps(api.Caps{}) {
		t.Error("Caps of nothing")
	}
}

func TestRight(t *testing.T) {
	for i, b := range rightBatches() {
		if !Right(b) || !rightByWords(b) {
			t.Errorf("batch %d, %v: Right %v, by the words %v", i, b, Right(b), rightByWords(b))
		}
	}
	for i, b := range wrongBatches() {
		if Right(b) || rightByWords(b) {
			t.Errorf("batch %d, %.300s: Right %v, by the words %v", i, fmt.Sprint(b), Right(b), rightByWords(b))
		}
	}
}

func TestRightAtEachKindAndPhase(t *testing.T) {
	for kind := -20; kind <= 300; kind++ {
		for phase := -20; phase <= 300; phase++ {
			want := (kind == 1 || kind == 2) && phase >= 1 && phase <= 3
			if got := Right(with(func(b *api.Batch) { b.Kind, b.Phase = kind, phase })); got != want {
				t.Fatalf("kind %d, phase %d: %v", kind, phase, got)
			}
		}
	}
}

func TestRightAtEachCountOfMembers(t *testing.T) {
	for n := range 300 {
		if got := Right(with(func(b *api.Batch) { b.Members = ids(n) })); got != (n <= 64) {
			t.Errorf("%d members: %v", n, got)
		}
	}
}

// TestRightAtEachPair: no Member may stand twice, wherever the two stand.
func TestRightAtEachPair(t *testing.T) {
	for i := range 64 {
		for j := range i {
			if Right(with(func(b *api.Batch) { b.Members = ids(64); b.Members[i] = b.Members[j] })) {
				t.Errorf("members %d and %d are one", j, i)
			}
		}
	}
}

// places change a batch in one place each.
func places() map[string]func(*api.Batch) {
	all := map[string]func(*api.Batch){
		"nothing":            func(b *api.Batch) {},
		"Id":                 func(b *api.Batch) { b.Id++ },
		"Id, far off":        func(b *api.Batch) { b.Id += 1 << 32 },
		"Id, below":          func(b *api.Batch) { b.Id = -b.Id },
		"Weight":             func(b *api.Batch) { b.Weight++ },
		"Weight, far off":    func(b *api.Batch) { b.Weight += 1 << 32 },
		"Weight, below":      func(b *api.Batch) { b.Weight = -b.Weight },
		"Born":               func(b *api.Batch) { b.Born++ },
		"Born, far off":      func(b *api.Batch) { b.Born += 1 << 32 },
		"Kind":               func(b *api.Batch) { b.Kind = api.Wave },
		"Kind, far off":      func(b *api.Batch) { b.Kind += 1 << 32 },
		"Phase":              func(b *api.Batch) { b.Phase = api.Done },
		"no Phase":           func(b *api.Batch) { b.Phase = 0 },
		"Id and Weight swap": func(b *api.Batch) { b.Id, b.Weight = b.Weight, b.Id },
		"Carrier":            func(b *api.Batch) { b.Group.Carrier += "a" },
		"the Carrier's case": func(b *api.Batch) { b.Group.Carrier = "UPS" },
		"Zone":               func(b *api.Batch) { b.Group.Zone += "a" },
		"Service":            func(b *api.Batch) { b.Group.Service += "a" },
		"Zone and Service":   func(b *api.Batch) { b.Group.Zone, b.Group.Service = b.Group.Service, b.Group.Zone },
		"no Group":           func(b *api.Batch) { b.Group = api.Group{} },
		"no Members":         func(b *api.Batch) { b.Members = nil },
		"the first left out": func(b *api.Batch) { b.Members = b.Members[1:] },
		"the last left out":  func(b *api.Batch) { b.Members = b.Members[:len(b.Members)-1] },
		"a Member more":      func(b *api.Batch) { b.Members = append(b.Members, "ω") },
		"an empty Member":    func(b *api.Batch) { b.Members = append(b.Members, "") },
		"Members backward":   func(b *api.Batch) { slices.Reverse(b.Members) },
		"the first two swap": func(b *api.Batch) { b.Members[0], b.Members[1] = b.Members[1], b.Members[0] },
		"the last two swap":  func(b *api.Batch) { b.Members[2], b.Members[3] = b.Members[3], b.Members[2] },
		"two Members as one": func(b *api.Batch) { b.Members = append(b.Members[:2], b.Members[2]+b.Members[3]) },
		"the first one's end": func(b *api.Batch) {
			b.Members[1], b.Members[0] = b.Members[0][3:]+b.Members[1], b.Members[0][:3]
		},
	}
	for i := range 4 {
		all[fmt.Sprint("Member ", i)] = func(b *api.Batch) { b.Members[i] += "a" }
		all[fmt.Sprint("Member's case ", i)] = func(b *api.Batch) { b.Members[i] = strings.ToUpper(b.Members[i]) }
	}
	return all
}

func TestSame(t *testing.T) {
	made := func(change func(*api.Batch)) api.Batch {
		b := with(func(b *api.Batch) { b.Members = ids(4) })
		change(&b)
		return b
	}
	for a, changeA := range places() {
		for b, changeB := range places() {
			if got := Same(made(changeA), made(changeB)); got != (a == b) {
				t.Errorf("Same of one with %s and one with %s: %v", a, b, got)
			}
		}
	}
}

func TestSameOfEachTwo(t *testing.T) {
	batches := append(rightBatches(), wrongBatches()...)
	for i := range batches {
		for j := i % 7; j < len(batches); j += 7 {
			a, b := batches[i], batches[j]
			alike := len(a.Members) == 0 && len(b.Members) == 0 || slices.Equal(a.Members, b.Members)
			a.Members, b.Members = nil, nil
			alike = alike && reflect.DeepEqual(a, b)
			if got := Same(batches[i], batches[j]); got != alike || got != Same(batches[j], batches[i]) {
				t.Fatalf("Same of batch %d and batch %d: %v", i, j, got)
			}
		}
		if !Same(batches[i], batches[i]) {
			t.Errorf("batch %d isn't the same as itself", i)
		}
	}
}

func TestSameOfNilAndEmpty(t *testing.T) {
	lists := [][]string{nil, {}, ids(3)[:0], make([]string, 0, 9)}
	for i, a := range lists {
		for j, b := range lists {
			for _, x := range []api.Batch{some(), fullest(), {}} {
				y := x
				x.Members, y.Members = a, b
				if !Same(x, y) {
					t.Errorf("Members %d and %d: not the same", i, j)
				}
			}
		}
		none := with(func(b *api.Batch) { b.Members = a })
		if Same(some(), none) || Same(none, some()) || Same(with(func(b *api.Batch) { b.Members = []string{""} }), none) {
			t.Errorf("Members %d: the same as some", i)
		}
	}
}

// kept lays a list into memory with room behind it, and tells whether all of that is still as it was.
func kept(l []string) (given []string, asItWas func() bool) {
	room := append(slices.Clone(l), "spare", "", "a")
	was := slices.Clone(room)
	return room[:len(l)], func() bool { return slices.Equal(room, was) }
}

// scribble writes over a list, spare room too.
func scribble(l []string) {
	for i := range l[:cap(l)] {
		l[:cap(l)][i] = "scribble"
	}
}

// ownMembers holds an answer that was asked for twice against memory: neither shares any with the other one or with what came in, and what came in stays.
func ownMembers(t *testing.T, what string, members []string, ask func(members []string) api.Batch) {
	t.Helper()
	given, asItWas := kept(members)
	want := ask(slices.Clone(members))
	first, second := ask(given), ask(given)
	if !Same(first, want) || !Same(second, want) || !asItWas() {
		t.Errorf("%s: %.300s, want %.300s", what, fmt.Sprint(first), fmt.Sprint(want))
	}
	scribble(first.Members)
	if !Same(second, want) || !asItWas() {
		t.Errorf("%s: an answer shares memory", what)
	}
	scribble(given)
	if !Same(second, want) {
		t.Errorf("%s: what was handed in is kept", what)
	}
}

// TestBatchesStay: what is asked of a batch leaves its Members as they were, spare room too, be it RIGHT or not.
func TestBatchesStay(t *testing.T) {
	for i, b := range append(rightBatches(), wrongBatches()...) {
		given, asItWas := kept(b.Members)
		other, otherAsItWas := kept(b.Members)
		a := b
		a.Members, b.Members = given, other
		Right(a)
		Same(a, b)
		Put(nil, a)
		for _, c := range someCaps() {
			Full(a, c)
			Join(a, c, "new", 1)
			Evict(a, "a", 1)
			Part(a, 9, b.Members, 1)
		}
		if !asItWas() || !otherAsItWas() {
			t.Errorf("batch %d: changed", i)
		}
	}
}

// TestAnswersStay: P1 and P2 for this layer: nothing makes a call panic, and a second asking is answered like the first.
func TestAnswersStay(t *testing.T) {
	batches := append(rightBatches(), wrongBatches()...)
	weights := append([]int64{0, 1, 999999999999, 1000000000000}, wrongTallies...)
	tell := func(i int) string {
		a, b := batches[i], batches[(i+1)%len(batches)]
		c, weight := someCaps()[i%len(someCaps())], weights[i%len(weights)]
		id := append(slices.Clone(a.Members), rightLabels...)[i%(len(a.Members)+len(rightLabels))]
		joined, joinErrno := Join(a, c, id, weight)
		evicted, evictErrno := Evict(a, id, weight)
		put := Put([]byte("ahead"), a)
		x, ok := taken(put[len("ahead"):])
		return fmt.Sprint(Caps(c), Right(a), Same(a, b), joined, joinErrno, evicted, evictErrno, Full(a, c), Part(a, weight, b.Members, weight), put, x, ok)
	}
	var first []string
	for i := range batches {
		first = append(first, tell(i))
	}
	for i := len(batches) - 1; i >= 0; i-- {
		if tell(i) != first[i] {
			t.Errorf("batch %d: answered otherwise", i)
		}
	}
}
