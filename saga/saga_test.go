package saga

import (
	"math"
	"math/rand"
	"strings"
	"testing"

	"packhorse/api"
)

// table is the chapter's own, word by word.
const table = `
| phase | Yes | No | Cancel | Freeze |
| Reserving | Authorising, Authorise; if Given: Releasing, Release | Compensated | Given | ErrEvent |
| Authorising | Waiting; if Given: Voiding, Void | Releasing, Release | Given | ErrEvent |
| Waiting | ErrEvent | ErrEvent | Given, Voiding, Void | Picking |
| Picking | Packed; if Given: Voiding, Void | Voiding, Void | Given | ErrEvent |
| Packed | ErrEvent | ErrEvent | Given, Voiding, Void | Sending |
| Sending | Capturing, Capture | Voiding, Void | ErrLate | ErrEvent |
| Capturing | Shipped | Capturing, Capture | ErrLate | ErrEvent |
| Shipped | ErrEvent | ErrEvent | ErrLate | ErrEvent |
| Voiding | Releasing, Release | a refusal | as it was | ErrEvent |
| Releasing | Compensated | a refusal | as it was | ErrEvent |
| Compensated | ErrEvent | ErrEvent | as it was | ErrEvent |
| Stuck | ErrEvent | ErrEvent | ErrLate | ErrEvent |
`

// The numbers of phases, effects and events by the words of the chapters 10, 13 and 14.
var (
	phases  = map[string]int{"Reserving": 1, "Authorising": 2, "Waiting": 3, "Picking": 4, "Packed": 5, "Sending": 6, "Capturing": 7, "Shipped": 8, "Voiding": 9, "Releasing": 10, "Compensated": 11, "Stuck": 12}
	effects = map[string]int{"Reserve": 1, "Authorise": 2, "Pick": 3, "Transmit": 4, "Capture": 5, "Void": 6, "Release": 7}
	events  = map[string]int{"Yes": 1, "No": 2, "Cancel": 3, "Freeze": 4}
)

// cells are the table's words by phase and event.
var cells = func() map[[2]int]string {
	told := map[[2]int]string{}
	rows := strings.Split(strings.TrimSpace(table), "\n")
	heads := strings.Split(strings.Trim(rows[0], "| "), " | ")
	for _, row := range rows[1:] {
		words := strings.Split(strings.Trim(row, "| "), " | ")
		for i, cell := range words[1:] {
			told[[2]int{phases[words[0]], events[heads[i+1]]}] = cell
		}
	}
	return told
}()

// stepByWords is Step as the chapter's words tell it.
func stepByWords(s api.Saga, event, limit int) (api.Saga, int, api.Errno) {
	cell, there := cells[[2]int{s.Phase, event}]
	if !there {
		cell = "ErrEvent"
	}
	switch cell {
	case "ErrEvent":
		return s, 0, 142
	case "ErrLate":
		return s, 0, 141
	case "as it was":
		return s, 0, 0
	case "a refusal":
		return refusalByWords(s, limit)
	}
	words, ifGiven, two := strings.Cut(cell, "; if Given: ")
	if two && s.Given {
		words = ifGiven
	}
	next, kind := s, 0
	for _, word := range strings.Split(words, ", ") {
		if word == "Given" {
			next.Given = true
		} else if phase, ok := phases[word]; ok {
			next.Phase = phase
		} else if kind, ok = effects[word]; !ok {
			panic("the table's word " + word)
		}
	}
	if s.Phase == phases["Voiding"] && next.Phase == phases["Releasing"] {
		next.Refusals = 0
	}
	return next, kind, 0
}

func refusalByWords(s api.Saga, limit int) (api.Saga, int, api.Errno) {
	if limit < 1 {
		limit = 1
	}
	if s.Refusals >= 1000000 {
		s.Refusals = 1000000
	} else {
		s.Refusals++
	}
	if s.Refusals >= limit {
		s.Phase = phases["Stuck"]
		return s, 0, 0
	}
	if s.Phase == phases["Voiding"] {
		return s, effects["Void"], 0
	}
	return s, effects["Release"], 0
}

// numbers are phases, events, limits and Refusals, such as are none too.
var numbers = []int{
	math.MinInt, math.MinInt + 1, -1 << 62, -1<<32 + 1, -1 << 32, -1000001, -1000000, -256, -12, -11, -10, -9, -8, -7, -6, -5, -4, -3, -2, -1,
	0, 1, 2, 3, 4, 5, 6, 7, 8, 9, 10, 11, 12, 13, 14, 15, 16, 17, 99, 100, 101, 127, 128, 255, 256, 257, 258, 259, 260, 265, 266, 65536, 65537,
	999998, 999999, 1000000, 1000001, 1000002, 1 << 32, 1<<32 + 1, 1<<32 + 2, 1<<32 + 3, 1<<32 + 4, 1<<32 + 7, 1<<32 + 8, 1<<32 + 9, 1<<32 + 10, 1<<40 + 3, 1 << 62, math.MaxInt - 1, math.MaxInt,
}

// few are limits and Refusals.
var few = []int{math.MinInt, math.MinInt + 1, -1000000, -2, -1, 0, 1, 2, 3, 99, 100, 101, 999998, 999999, 1000000, 1000001, 1000002, 1 << 32, 1<<32 + 1, math.MaxInt - 1, math.MaxInt}

// steps holds what Step answers.
func steps(t *testing.T, s api.Saga, event, limit int, want api.Saga, kind int, errno api.Errno) {
	t.Helper()
	next, n, e := Step(s, event, limit)
	if next != want || n != kind || e != errno {
		t.Errorf("Step(%v, %d, %d) is %v, %d, %d, want %v, %d, %d", s, event, limit, next, n, e, want, kind, errno)
	}
}

// stepsByWords holds what Step answers against the chapter's words.
func stepsByWords(t *testing.T, s api.Saga, event, limit int) {
	t.Helper()
	want, kind, errno := stepByWords(s, event, limit)
	steps(t, s, event, limit, want, kind, errno)
}

// TestTable: each phase with each event, Given and not, as numbers.
func TestTable(t *testing.T) {
	const late, event = 141, 142
	type cell struct{ phase, kind, errno int }
	is := func(phase int, kind ...int) cell { return cell{phase, append(kind, 0)[0], 0} }
	fails := func(errno int) cell { return cell{errno: errno} }
	for phase, row := range [][]cell{
		// Yes, Yes if Given, No, Cancel, Freeze.
		1:  {is(2, 2), is(10, 7), is(11), is(1), fails(event)},
		2:  {is(3), is(9, 6), is(10, 7), is(2), fails(event)},
		3:  {fails(event), fails(event), fails(event), is(9, 6), is(4)},
		4:  {is(5), is(9, 6), is(9, 6), is(4), fails(event)},
		5:  {fails(event), fails(event), fails(event), is(9, 6), is(6)},
		6:  {is(7, 5), is(7, 5), is(9, 6), fails(late), fails(event)},
		7:  {is(8), is(8), is(7, 5), fails(late), fails(event)},
		8:  {fails(event), fails(event), fails(event), fails(late), fails(event)},
		9:  {is(10, 7), is(10, 7), is(9, 6), is(9), fails(event)},
		10: {is(11), is(11), is(10, 7), is(10), fails(event)},
		11: {fails(event), fails(event), fails(event), is(11), fails(event)},
		12: {fails(event), fails(event), fails(event), fails(late), fails(event)},
	} {
		for i, want := range row {
			for _, given := range []bool{false, true} {
				if given && i == 0 || !given && i == 1 {
					continue
				}
				s := api.Saga{Phase: phase, Given: given, Refusals: 5}
				next := s
				if want.errno == 0 {
					next.Phase = want.phase
					// A Cancel in these sets Given; a refusal counts; the house has refused nothing yet.
					next.Given = given || i == 3 && phase <= 5
					if i == 2 && (phase == 9 || phase == 10) {
						next.Refusals = 6
					}
					if i <= 1 && phase == 9 {
						next.Refusals = 0
					}
				}
				steps(t, s, []int{1, 1, 2, 3, 4}[i], 100, next, want.kind, api.Errno(want.errno))
			}
		}
	}
}

// TestStep: each phase with each event, Given and not, of any Refusals and limits, by the chapter's words.
func TestStep(t *testing.T) {
	if len(cells) != 12*4 {
		t.Fatal("the table has", len(cells), "cells")
	}
	for phase := range 14 {
		for event := range 6 {
			for _, given := range []bool{false, true} {
				for _, refusals := range numbers {
					for _, limit := range few {
						stepsByWords(t, api.Saga{Phase: phase, Given: given, Refusals: refusals}, event, limit)
					}
				}
			}
		}
	}
}

func TestStepByChance(t *testing.T) {
	chance := rand.New(rand.NewSource(14))
	some := func(most int) int {
		switch chance.Intn(4) {
		case 0:
			return numbers[chance.Intn(len(numbers))]
		case 1:
			return int(chance.Uint64())
		}
		return chance.Intn(most)
	}
	for range 300000 {
		s := api.Saga{Phase: some(14), Given: chance.Intn(2) == 0, Refusals: some(8)}
		stepsByWords(t, s, some(6), some(8))
	}
}

// TestNoSuch: phases and events that are none.
func TestNoSuch(t *testing.T) {
	for _, phase := range numbers {
		for _, event := range numbers {
			if 1 <= phase && phase <= 12 && 1 <= event && event <= 4 {
				continue
			}
			for _, s := range []api.Saga{{Phase: phase}, {Phase: phase, Given: true, Refusals: 3}, {Phase: phase, Refusals: -3}, {Phase: phase, Refusals: math.MaxInt}} {
				for _, limit := range []int{math.MinInt, 0, 1, 2, 1000000, math.MaxInt} {
					steps(t, s, event, limit, s, 0, api.ErrEvent)
				}
			}
		}
	}
}

// TestFails: at an error the saga is as it was, whatever it is, and nothing is asked for.
func TestFails(t *testing.T) {
	errnos := map[api.Errno]int{}
	for _, phase := range numbers {
		for _, event := range numbers {
			for _, given := range []bool{false, true} {
				for _, refusals := range []int{math.MinInt, -1, 0, 1, 999999, 1000000, math.MaxInt} {
					s := api.Saga{Phase: phase, Given: given, Refusals: refusals}
					next, kind, errno := Step(s, event, 2)
					if errno != api.OK && (next != s || kind != 0) {
						t.Errorf("Step(%v, %d, 2) is %v, %d beside %d", s, event, next, kind, errno)
					}
					errnos[errno]++
				}
			}
		}
	}
	if len(errnos) != 3 || errnos[api.OK] == 0 || errnos[141] == 0 || errnos[142] == 0 {
		t.Error("all errors are", errnos)
	}
}

// TestErrors: the numbers of what the chapter names.
func TestErrors(t *testing.T) {
	if api.ErrLate != 141 || api.ErrEvent != 142 {
		t.Error(api.ErrLate, api.ErrEvent)
	}
	if api.Yes != 1 || api.No != 2 || api.Cancel != 3 || api.Freeze != 4 {
		t.Error(api.Yes, api.No, api.Cancel, api.Freeze)
	}
}

// TestExample: what the chapter shows.
func TestExample(t *testing.T) {
	s := api.Saga{Phase: api.Reserving}
	given := api.Saga{Phase: api.Reserving, Given: true}
	steps(t, s, api.Cancel, 2, given, 0, api.OK)
	steps(t, given, api.Yes, 2, api.Saga{Phase: api.Releasing, Given: true}, api.Release, api.OK)
}

// TestCancelTwice: in each phase, and what comes of a Yes or a No behind it.
func TestCancelTwice(t *testing.T) {
	g := func(phase int) api.Saga { return api.Saga{Phase: phase, Given: true, Refusals: 4} }
	n := func(phase int) api.Saga { return api.Saga{Phase: phase, Refusals: 4} }
	released := api.Saga{Phase: api.Releasing, Given: true}
	for _, x := range []struct {
		phase       int
		first       api.Saga
		asks        int
		second, yes api.Saga
		yesAsks     int
		no          api.Saga
		noAsks      int
	}{
		{api.Reserving, g(api.Reserving), 0, g(api.Reserving), g(api.Releasing), api.Release, g(api.Compensated), 0},
		{api.Authorising, g(api.Authorising), 0, g(api.Authorising), g(api.Voiding), api.Void, g(api.Releasing), api.Release},
		{api.Waiting, g(api.Voiding), api.Void, g(api.Voiding), released, api.Release, api.Saga{Phase: api.Voiding, Given: true, Refusals: 5}, api.Void},
		{api.Picking, g(api.Picking), 0, g(api.Picking), g(api.Voiding), api.Void, g(api.Voiding), api.Void},
		{api.Packed, g(api.Voiding), api.Void, g(api.Voiding), released, api.Release, api.Saga{Phase: api.Voiding, Given: true, Refusals: 5}, api.Void},
		{api.Voiding, n(api.Voiding), 0, n(api.Voiding), api.Saga{Phase: api.Releasing}, api.Release, api.Saga{Phase: api.Voiding, Refusals: 5}, api.Void},
		{api.Releasing, n(api.Releasing), 0, n(api.Releasing), n(api.Compensated), 0, api.Saga{Phase: api.Releasing, Refusals: 5}, api.Release},
	} {
		steps(t, n(x.phase), api.Cancel, 100, x.first, x.asks, api.OK)
		steps(t, x.first, api.Cancel, 100, x.second, 0, api.OK)
		steps(t, x.second, api.Yes, 100, x.yes, x.yesAsks, api.OK)
		steps(t, x.second, api.No, 100, x.no, x.noAsks, api.OK)
	}
	steps(t, n(api.Compensated), api.Cancel, 100, n(api.Compensated), 0, api.OK)
	steps(t, g(api.Compensated), api.Cancel, 100, g(api.Compensated), 0, api.OK)
	steps(t, n(api.Compensated), api.Yes, 100, n(api.Compensated), 0, api.ErrEvent)
	for _, phase := range []int{api.Sending, api.Capturing, api.Shipped, api.Stuck} {
		steps(t, n(phase), api.Cancel, 100, n(phase), 0, api.ErrLate)
		steps(t, g(phase), api.Cancel, 100, g(phase), 0, api.ErrLate)
	}
}

// TestRefusal: each refusal counts, MaxTries at most, and at the limit the order is stuck.
func TestRefusal(t *testing.T) {
	const most = 1000000
	for _, x := range []struct {
		refusals, limit, behind int
		stuck                   bool
	}{
		{0, math.MinInt, 1, true},
		{0, -1, 1, true},
		{0, 0, 1, true},
		{0, 1, 1, true},
		{0, 2, 1, false},
		{1, 2, 2, true},
		{2, 2, 3, true},
		{3, 2, 4, true},
		{5, 2, 6, true},
		{0, 100, 1, false},
		{98, 100, 99, false},
		{99, 100, 100, true},
		{100, 100, 101, true},
		{101, 100, 102, true},
		{0, most, 1, false},
		{most - 2, most, most - 1, false},
		{most - 1, most, most, true},
		{most, most, most, true},
		{most + 1, most, most, true},
		{math.MaxInt, most, most, true},
		{most - 1, 2, most, true},
		{most, 2, most, true},
		{most, 0, most, true},
		{most - 2, most - 1, most - 1, true},
		{most - 1, most + 1, most, false},
		{most, most + 1, most, false},
		{most + 1, most + 1, most, false},
		{0, most + 1, 1, false},
		{math.MaxInt, most + 1, most, false},
		{math.MaxInt, math.MaxInt, most, false},
		{most, math.MaxInt, most, false},
		{-1, 1, 0, false},
		{-1, 0, 0, false},
		{-1, -1, 0, false},
		{-1, -5, 0, false},
		{-7, -8, -6, false},
		{-2, 2, -1, false},
		{math.MinInt, 1, math.MinInt + 1, false},
		{math.MinInt, math.MinInt, math.MinInt + 1, false},
	} {
		for _, given := range []bool{false, true} {
			for phase, kind := range map[int]int{api.Voiding: api.Void, api.Releasing: api.Release} {
				want := api.Saga{Phase: phase, Given: given, Refusals: x.behind}
				if x.stuck {
					want.Phase, kind = api.Stuck, 0
				}
				steps(t, api.Saga{Phase: phase, Given: given, Refusals: x.refusals}, api.No, x.limit, want, kind, api.OK)
			}
		}
	}
}

// TestAsOftenAsTheLimit: one who is refused each time is tried as often as the limit says, by the bank and by the house alike.
func TestAsOftenAsTheLimit(t *testing.T) {
	for limit := range 101 {
		for _, phase := range []int{api.Voiding, api.Releasing} {
			s, tries := api.Saga{Phase: phase}, 0
			for s.Phase != api.Stuck && tries <= 101 {
				s, _, _ = Step(s, api.No, limit)
				tries++
			}
			if tries != max(limit, 1) || s.Refusals != tries {
				t.Errorf("in phase %d with the limit %d: %d tries, %d refusals", phase, limit, tries, s.Refusals)
			}
		}
	}
	s := api.Saga{Phase: api.Voiding}
	for _, event := range []int{api.No, api.No, api.Yes, api.No, api.No, api.No} {
		s, _, _ = Step(s, event, 3)
	}
	if s != (api.Saga{Phase: api.Stuck, Refusals: 3}) {
		t.Error("the bank's refusals count for the house:", s)
	}
}

// TestRefusalsStay: but for a refusal, nothing but Yes in Voiding changes their number.
func TestRefusalsStay(t *testing.T) {
	for phase := range 14 {
		for event := range 6 {
			for _, given := range []bool{false, true} {
				for _, refusals := range numbers {
					undoing := phase == api.Voiding || phase == api.Releasing
					if event == api.No && undoing {
						continue
					}
					want := refusals
					if event == api.Yes && phase == api.Voiding {
						want = 0
					}
					s, _, _ := Step(api.Saga{Phase: phase, Given: given, Refusals: refusals}, event, 1)
					if s.Refusals != want {
						t.Errorf("event %d in phase %d, Given %v: %d refusals of %d", event, phase, given, s.Refusals, refusals)
					}
				}
			}
		}
	}
}

// TestGivenStays: who is to be given up stays so, and nothing but a Cancel says that anyone is.
func TestGivenStays(t *testing.T) {
	for _, phase := range numbers {
		for _, event := range numbers {
			for _, refusals := range few {
				if s, _, _ := Step(api.Saga{Phase: phase, Given: true, Refusals: refusals}, event, 2); !s.Given {
					t.Errorf("event %d in phase %d: not Given any more", event, phase)
				}
				s, _, _ := Step(api.Saga{Phase: phase, Refusals: refusals}, event, 2)
				if want := event == api.Cancel && 1 <= phase && phase <= 5; s.Given != want {
					t.Errorf("event %d in phase %d: Given %v", event, phase, s.Given)
				}
			}
		}
	}
}

// TestLimit: it counts where something is refused, and nowhere else.
func TestLimit(t *testing.T) {
	for phase := range 14 {
		for event := range 6 {
			if event == api.No && (phase == api.Voiding || phase == api.Releasing) {
				continue
			}
			s := api.Saga{Phase: phase, Refusals: 7}
			want, kind, errno := Step(s, event, 1)
			for _, limit := range numbers {
				steps(t, s, event, limit, want, kind, errno)
			}
		}
	}
}

func TestAsks(t *testing.T) {
	asked := map[int]int{api.Reserving: 1, api.Authorising: 2, api.Capturing: 5, api.Voiding: 6, api.Releasing: 7}
	for phase := -300; phase < 300; phase++ {
		if kind := Asks(phase); kind != asked[phase] {
			t.Errorf("Asks(%d) is %d", phase, kind)
		}
	}
	for _, phase := range numbers {
		if kind := Asks(phase); kind != asked[phase] {
			t.Errorf("Asks(%d) is %d", phase, kind)
		}
	}
}

func TestLeft(t *testing.T) {
	for _, phase := range numbers {
		for _, given := range []bool{false, true} {
			for _, refusals := range numbers {
				s := api.Saga{Phase: phase, Given: given, Refusals: refusals}
				if left := Left(s); left != (phase == 7 || phase == 8) {
					t.Errorf("Left(%v) is %v", s, left)
				}
			}
		}
	}
}

// TestAnswersStay: what is answered hangs on what is asked alone, not on what was asked before.
func TestAnswersStay(t *testing.T) {
	type told struct {
		s           api.Saga
		kind        int
		errno       api.Errno
		asks        int
		left, again bool
	}
	ask := func(i int) told {
		s := api.Saga{Phase: i % 14, Given: i/14%2 == 1, Refusals: i / 28 % 4}
		next, kind, errno := Step(s, i/112%6, 3)
		return told{s: next, kind: kind, errno: errno, asks: Asks(s.Phase), left: Left(s)}
	}
	const n = 112 * 6
	var first []told
	for i := range n {
		first = append(first, ask(i))
	}
	chance := rand.New(rand.NewSource(2))
	for range 20 {
		var again []told
		order := chance.Perm(n)
		for _, i := range order {
			again = append(again, ask(i))
		}
		for at, i := range order {
			if again[at] != first[i] {
				t.Fatalf("number %d: %v, and first %v", i, again[at], first[i])
			}
		}
	}
}
