package day

import (
	"fmt"
	"math"
	"math/rand"
	"slices"
	"testing"

	"packhorse/api"
)

const (
	last    = 1099511627776 // the last TICK: tick 64 of its day
	lastDay = 11453246122
	lastOne = lastDay * 96 // the first TICK of the last day
)

var wrongTicks = []int64{
	math.MinInt64, math.MinInt64 + 1, math.MinInt64 / 2, -last - 1, -last, -97, -96, -95, -2, -1,
	last + 1, last + 2, last + 31, last + 32, last + 33, last + 96, 2 * last, 1 << 62, math.MaxInt64 - 96, math.MaxInt64 - 1, math.MaxInt64,
}

var rightTicks = []int64{
	0, 1, 2, 31, 32, 33, 94, 95, 96, 97, 191, 192, 193, 1000, 1 << 31, 1 << 32, 1<<32 + 1, last / 2,
	lastOne - 97, lastOne - 96, lastOne - 95, lastOne - 2, lastOne - 1, lastOne, lastOne + 1, last - 2, last - 1, last,
}

// wrongDoors are numbers that no door can be.
var wrongDoors = []int{math.MinInt, math.MinInt + 1, -97, -96, -2, -1, 96, 97, 98, 192, 1 << 32, math.MaxInt - 1, math.MaxInt}

// allDoors are closed at each tick.
func allDoors() []int {
	var all []int
	for n := range 96 {
		all = append(all, n)
	}
	return all
}

// doorLists are DOORS: each one alone, those at the ends of a day and at the last TICK, all of them, and some by chance, the same ones at each run.
func doorLists() [][]int {
	lists := [][]int{{0, 95}, {0, 1}, {94, 95}, {32, 64}, {10, 50, 90}, {63, 64, 65}, {0, 64}, {64, 95}, allDoors(), allDoors()[1:], allDoors()[:95], allDoors()[65:]}
	for n := range 96 {
		lists = append(lists, []int{n})
	}
	chance := rand.New(rand.NewSource(3))
	for size := 2; size < 96; size += 7 {
		some := chance.Perm(96)[:size]
		slices.Sort(some)
		lists = append(lists, some)
	}
	return lists
}

// noDoors are lists that are no DOORS.
func noDoors() [][]int {
	lists := [][]int{
		nil, {}, {3, 2}, {1, 0}, {95, 0}, {95, 94}, {0, 2, 1}, {2, 0, 1}, {0, 50, 40, 90}, {90, 50, 10}, // don't rise
		{0, 0}, {7, 7}, {95, 95}, {1, 2, 2}, {1, 1, 2}, {1, 2, 2, 3}, // one more than once
		append(allDoors(), 96), append(allDoors(), 95), append([]int{-1}, allDoors()...), append([]int{0}, allDoors()...),
		slices.Repeat([]int{5}, 1000), make([]int, 1<<20), slices.Repeat(allDoors(), 3),
	}
	for _, wrong := range wrongDoors {
		lists = append(lists, []int{wrong}, []int{wrong, 5}, []int{5, wrong}, []int{5, wrong, 10})
	}
	return lists
}

// closes goes by the chapter's own words.
func closes(doors []int, t int64) bool {
	return slices.Contains(doors, int(t%96))
}

func TestRight(t *testing.T) {
	for _, n := range rightTicks {
		if !Right(n) {
			t.Errorf("Right(%d): false", n)
		}
	}
	for _, n := range wrongTicks {
		if Right(n) {
			t.Errorf("Right(%d): true", n)
		}
	}
}

func TestOf(t *testing.T) {
	for _, c := range []struct {
		t, day int64
		tick   int
	}{
		{0, 0, 0}, {1, 0, 1}, {95, 0, 95}, {96, 1, 0}, {97, 1, 1}, {191, 1, 95}, {192, 2, 0}, {200, 2, 8}, {960, 10, 0},
		{1 << 32, 44739242, 64}, {lastOne - 1, lastDay - 1, 95}, {lastOne, lastDay, 0}, {last - 1, lastDay, 63}, {last, lastDay, 64},
	} {
		if day, tick := Of(c.t); day != c.day || tick != c.tick {
			t.Errorf("Of(%d): %d %d, want %d %d", c.t, day, tick, c.day, c.tick)
		}
	}
	for _, n := range wrongTicks {
		if day, tick := Of(n); day != 0 || tick != 0 {
			t.Errorf("Of(%d): %d %d", n, day, tick)
		}
	}
}

func TestOfCountsOn(t *testing.T) {
	day, tick := int64(0), 0
	for n := range int64(1000) {
		if gotDay, gotTick := Of(n); gotDay != day || gotTick != tick {
			t.Errorf("Of(%d): %d %d, want %d %d", n, gotDay, gotTick, day, tick)
		}
		if tick++; tick == 96 {
			day, tick = day+1, 0
		}
	}
}

func TestDoors(t *testing.T) {
	for _, c := range []struct{ l, want []int }{
		{[]int{0}, []int{0}}, {[]int{95}, []int{95}}, {[]int{32}, []int{32}},
		{[]int{32, 64}, []int{32, 64}}, {[]int{64, 32}, []int{32, 64}}, {[]int{95, 0}, []int{0, 95}},
		{[]int{90, 10, 50, 10}, []int{10, 50, 90}}, {[]int{10, 10}, []int{10}}, {[]int{0, 0, 0}, []int{0}}, {[]int{95, 95}, []int{95}},
		{[]int{3, 1, 2, 3, 1, 2}, []int{1, 2, 3}}, {[]int{5, 95, 0, 95, 0}, []int{0, 5, 95}},
		{allDoors(), allDoors()}, {slices.Repeat(allDoors(), 5), allDoors()}, {make([]int, 1000), []int{0}},
	} {
		if got, e := Doors(c.l...); !slices.Equal(got, c.want) || e != api.OK {
			t.Errorf("Doors(%d): %d %d, want %d", c.l, got, e, c.want)
		}
	}
}

func TestDoorsInWhicheverOrder(t *testing.T) {
	chance := rand.New(rand.NewSource(4))
	for _, want := range doorLists() {
		given := slices.Concat(want, want, want[:1])
		for range 5 {
			chance.Shuffle(len(given), func(a, b int) { given[a], given[b] = given[b], given[a] })
			if got, e := Doors(given...); !slices.Equal(got, want) || e != api.OK {
				t.Errorf("Doors(%d): %d %d, want %d", given, got, e, want)
			}
		}
	}
}

func TestDoorsOfWrongNumbers(t *testing.T) {
	if got, e := Doors(); len(got) != 0 || e != api.ErrDay {
		t.Errorf("Doors of none: %d %d", got, e)
	}
	if got, e := Doors([]int{}...); len(got) != 0 || e != api.ErrDay {
		t.Errorf("Doors of an empty list: %d %d", got, e)
	}
	for _, wrong := range wrongDoors {
		for _, l := range [][]int{{wrong}, {wrong, wrong}, {wrong, 5}, {5, wrong}, {90, wrong, 5}, append(allDoors(), wrong), append([]int{wrong}, allDoors()...)} {
			if got, e := Doors(l...); len(got) != 0 || e != api.ErrDay {
				t.Errorf("Doors(%d): %d %d", l, got, e)
			}
		}
	}
}

func TestDoorsOfVeryMany(t *testing.T) {
	many := slices.Repeat([]int{95, 3, 50}, 1<<19)
	if got, e := Doors(many...); !slices.Equal(got, []int{3, 50, 95}) || e != api.OK {
		t.Errorf("%d %d", got, e)
	}
	many[len(many)-1] = 96
	if got, e := Doors(many...); len(got) != 0 || e != api.ErrDay {
		t.Errorf("the last one wrong: %d %d", got, e)
	}
}

func TestDoorsAnswersNewMemory(t *testing.T) {
	given := []int{10, 50, 90}
	first, _ := Doors(given...)
	second, _ := Doors(given...)
	for i := range first[:cap(first)] {
		first[:cap(first)][i] = -1
	}
	third, _ := Doors(given...)
	want := []int{10, 50, 90}
	if !slices.Equal(given, want) || !slices.Equal(second, want) || !slices.Equal(third, want) {
		t.Error(given, second, third)
	}
}

func TestEnd(t *testing.T) {
	for _, c := range [][2]int64{
		{0, 96}, {1, 96}, {94, 96}, {95, 96}, {96, 192}, {97, 192}, {191, 192}, {192, 288}, {1 << 32, 1<<32 + 32},
		{lastOne - 97, lastOne - 96}, {lastOne - 96, lastOne}, {lastOne - 2, lastOne}, {lastOne - 1, lastOne},
	} {
		if got, e := End(c[0]); got != c[1] || e != api.OK {
			t.Errorf("End(%d): %d %d, want %d", c[0], got, e, c[1])
		}
	}
	for n := int64(lastOne); n <= last; n++ {
		if got, e := End(n); got != 0 || e != api.ErrDay {
			t.Errorf("End(%d), of the last day: %d %d", n, got, e)
		}
	}
	for _, n := range wrongTicks {
		if got, e := End(n); got != 0 || e != api.ErrDay {
			t.Errorf("End(%d): %d %d", n, got, e)
		}
	}
}

func TestNext(t *testing.T) {
	for _, c := range []struct {
		doors []int
		t     int64
		want  int64
	}{
		{[]int{32, 64}, 64, 128}, {[]int{32, 64}, 0, 32}, {[]int{32, 64}, 31, 32}, {[]int{32, 64}, 32, 64}, {[]int{32, 64}, 63, 64}, {[]int{32, 64}, 65, 128}, {[]int{32, 64}, 95, 128}, {[]int{32, 64}, 96, 128},
		{[]int{0}, 0, 96}, {[]int{0}, 1, 96}, {[]int{0}, 95, 96}, {[]int{0}, 96, 192},
		{[]int{95}, 0, 95}, {[]int{95}, 94, 95}, {[]int{95}, 95, 191}, {[]int{95}, 96, 191},
		{[]int{0, 95}, 0, 95}, {[]int{0, 95}, 95, 96}, {[]int{0, 95}, 94, 95},
		{[]int{1}, 0, 1}, {[]int{1}, 1, 97}, {allDoors(), 0, 1}, {allDoors(), 94, 95}, {allDoors(), 95, 96}, {allDoors(), last - 1, last},
		{[]int{64}, last - 1, last}, {[]int{64}, lastOne, last}, {[]int{64}, last - 96, last}, {[]int{64}, last - 97, last - 96},
		{[]int{0}, lastOne - 1, lastOne}, {[]int{0, 95}, lastOne - 96, lastOne - 1}, {[]int{95}, lastOne - 2, lastOne - 1}, {[]int{63}, lastOne, last - 1}, {[]int{65}, lastOne - 32, lastOne - 31},
	} {
		if got, e := Next(c.doors, c.t); got != c.want || e != api.OK {
			t.Errorf("Next(%d, %d): %d %d, want %d", c.doors, c.t, got, e, c.want)
		}
	}
}

func TestNextBehindTheLastTick(t *testing.T) {
	for _, c := range []struct {
		doors []int
		t     int64
	}{
		{[]int{0}, last}, {[]int{0}, lastOne}, {[]int{0}, last - 1}, {[]int{64}, last}, {[]int{63}, last - 1}, {[]int{63, 65}, last - 1},
		{[]int{65}, lastOne - 31}, {[]int{65}, lastOne}, {[]int{65}, last}, {[]int{95}, lastOne - 1}, {[]int{95}, lastOne}, {[]int{95}, last}, {allDoors(), last}, {[]int{10, 65, 90}, lastOne + 10},
	} {
		if got, e := Next(c.doors, c.t); got != 0 || e != api.ErrDay {
			t.Errorf("Next(%d, %d): %d %d", c.doors, c.t, got, e)
		}
	}
}

// walkedNext goes tick by tick.
func walkedNext(doors []int, t int64) (int64, api.Errno) {
	for n := t + 1; n <= last; n++ {
		if closes(doors, n) {
			return n, api.OK
		}
	}
	return 0, api.ErrDay
}

func TestNextHoldsToTheTicks(t *testing.T) {
	var ticks []int64
	for n := range int64(200) {
		ticks = append(ticks, n, 1<<33+n, last-n)
	}
	for _, doors := range doorLists() {
		for _, n := range ticks {
			want, wantErr := walkedNext(doors, n)
			if got, e := Next(doors, n); got != want || e != wantErr {
				t.Errorf("Next(%d, %d): %d %d, want %d %d", doors, n, got, e, want, wantErr)
			}
		}
	}
}

func TestPassed(t *testing.T) {
	for _, c := range []struct {
		doors    []int
		from, to int64
		want     int64
	}{
		{[]int{32, 64}, 0, 31, 0}, {[]int{32, 64}, 0, 32, 1}, {[]int{32, 64}, 31, 32, 1}, {[]int{32, 64}, 32, 33, 0}, {[]int{32, 64}, 32, 64, 1}, {[]int{32, 64}, 31, 64, 2}, {[]int{32, 64}, 64, 127, 0}, {[]int{32, 64}, 64, 128, 1},
		{[]int{32, 64}, 0, 96, 2}, {[]int{32, 64}, 64, 160, 2}, {[]int{32, 64}, 63, 160, 3}, {[]int{32, 64}, 0, 960, 20},
		{[]int{0}, 0, 0, 0}, {[]int{0}, 0, 95, 0}, {[]int{0}, 0, 96, 1}, {[]int{0}, 95, 96, 1}, {[]int{0}, 96, 96, 0}, {[]int{0}, 1, 192, 2},
		{[]int{95}, 0, 94, 0}, {[]int{95}, 0, 95, 1}, {[]int{95}, 95, 96, 0}, {[]int{95}, 95, 191, 1}, {[]int{95}, 94, 191, 2},
		{[]int{0, 95}, 0, 95, 1}, {[]int{0, 95}, 95, 96, 1}, {[]int{0, 95}, 94, 96, 2},
		{allDoors(), 0, 0, 0}, {allDoors(), 0, 1, 1}, {allDoors(), 90, 100, 10}, {allDoors(), 0, last, last}, {allDoors(), 1, last, last - 1}, {allDoors(), last - 1, last, 1},
		{[]int{0}, 0, last, lastDay}, {[]int{1}, 0, last, lastDay + 1}, {[]int{64}, 0, last, lastDay + 1}, {[]int{65}, 0, last, lastDay}, {[]int{95}, 0, last, lastDay}, {[]int{64, 65}, 0, last, 2*lastDay + 1}, {[]int{64}, 64, last, lastDay}, {[]int{64}, 0, last - 1, lastDay},
		{[]int{64}, last - 1, last, 1}, {[]int{64}, last, last, 0}, {[]int{0}, lastOne - 1, lastOne, 1}, {[]int{0}, lastOne, last, 0},
	} {
		if got, e := Passed(c.doors, c.from, c.to); got != c.want || e != api.OK {
			t.Errorf("Passed(%d, %d, %d): %d %d, want %d", c.doors, c.from, c.to, got, e, c.want)
		}
	}
}

func TestPassedHoldsToTheTicks(t *testing.T) {
	for _, begin := range []int64{0, 1, 50, 1<<33 + 5, lastOne - 150, last - 250} {
		for _, doors := range doorLists() {
			for from := begin; from < begin+200; from += 7 {
				want := int64(0)
				for to := from; to <= begin+250; to++ {
					if to > from && closes(doors, to) {
						want++
					}
					if to > last {
						break
					}
					if got, e := Passed(doors, from, to); got != want || e != api.OK {
						t.Errorf("Passed(%d, %d, %d): %d %d, want %d", doors, from, to, got, e, want)
					}
				}
			}
		}
	}
}

// TestPassedOverManyDays: spans that are too great to walk are told by what they are made of.
func TestPassedOverManyDays(t *testing.T) {
	for _, doors := range doorLists() {
		for _, from := range rightTicks {
			for _, to := range rightTicks {
				if from > to {
					continue
				}
				days := (to - from) / 96
				want := days * int64(len(doors))
				for n := from + days*96 + 1; n <= to; n++ {
					if closes(doors, n) {
						want++
					}
				}
				if got, e := Passed(doors, from, to); got != want || e != api.OK {
					t.Errorf("Passed(%d, %d, %d): %d %d, want %d", doors, from, to, got, e, want)
				}
			}
		}
	}
}

func TestPassedFromBehindTo(t *testing.T) {
	for _, doors := range [][]int{{0}, {95}, {32, 64}, allDoors()} {
		for _, from := range rightTicks {
			for _, to := range rightTicks {
				got, e := Passed(doors, from, to)
				if from > to && (got != 0 || e != api.ErrDay) {
					t.Errorf("Passed(%d, %d, %d): %d %d", doors, from, to, got, e)
				}
				if from == to && (got != 0 || e != api.OK) {
					t.Errorf("Passed(%d, %d, %d), to itself: %d %d", doors, from, to, got, e)
				}
			}
		}
	}
}

func TestWrongTicks(t *testing.T) {
	for _, doors := range [][]int{{0}, {64}, {95}, {32, 64}, allDoors()} {
		for _, wrong := range wrongTicks {
			if got, e := Next(doors, wrong); got != 0 || e != api.ErrDay {
				t.Errorf("Next(%d, %d): %d %d", doors, wrong, got, e)
			}
			for _, other := range append(rightTicks, wrongTicks...) {
				if got, e := Passed(doors, wrong, other); got != 0 || e != api.ErrDay {
					t.Errorf("Passed(%d, %d, %d): %d %d", doors, wrong, other, got, e)
				}
				if got, e := Passed(doors, other, wrong); got != 0 || e != api.ErrDay {
					t.Errorf("Passed(%d, %d, %d): %d %d", doors, other, wrong, got, e)
				}
			}
		}
	}
}

func TestWrongDoors(t *testing.T) {
	for i, doors := range noDoors() {
		for _, n := range append(rightTicks, wrongTicks...) {
			if got, e := Next(doors, n); got != 0 || e != api.ErrDay {
				t.Errorf("list %d: Next at %d: %d %d", i, n, got, e)
			}
			if got, e := Passed(doors, n, n); got != 0 || e != api.ErrDay {
				t.Errorf("list %d: Passed from %d to itself: %d %d", i, n, got, e)
			}
			if got, e := Passed(doors, 0, n); got != 0 || e != api.ErrDay {
				t.Errorf("list %d: Passed from 0 to %d: %d %d", i, n, got, e)
			}
		}
	}
}

// TestListsStay: a list that is handed in is left as it was, with its spare room, be it DOORS or not.
func TestListsStay(t *testing.T) {
	for i, l := range append(doorLists(), noDoors()...) {
		room := append(slices.Clone(l), 7, -7, 96, 0)
		was := slices.Clone(room)
		given := room[:len(l)]
		Doors(given...)
		Next(given, 50)
		Next(given, last)
		Passed(given, 0, 500)
		Passed(given, 500, 0)
		if !slices.Equal(room, was) {
			t.Errorf("list %d: changed", i)
		}
	}
}

// TestListsAreNotKept: an answer hangs on the list as it is now, not as it was.
func TestListsAreNotKept(t *testing.T) {
	doors := []int{10, 20}
	Next(doors, 0)
	Passed(doors, 0, 96)
	doors[0], doors[1] = 30, 31
	if got, e := Next(doors, 0); got != 30 || e != api.OK {
		t.Errorf("Next: %d %d", got, e)
	}
	if got, e := Passed(doors, 0, 30); got != 1 || e != api.OK {
		t.Errorf("Passed: %d %d", got, e)
	}
}

// TestAnswersStay: P1 and P2 for this layer: no number and no list makes a call panic, and a second asking is answered like the first.
func TestAnswersStay(t *testing.T) {
	ticks := append(rightTicks, wrongTicks...)
	lists := append(doorLists(), noDoors()...)
	tell := func(i int) string {
		l, n, m := lists[i%len(lists)], ticks[i%len(ticks)], ticks[i/len(ticks)%len(ticks)]
		doors, e := Doors(l...)
		next, f := Next(l, n)
		passed, g := Passed(l, n, m)
		end, h := End(n)
		day, tick := Of(n)
		return fmt.Sprint(Right(n), doors, e, next, f, passed, g, end, h, day, tick)
	}
	var first []string
	for i := range 5000 {
		first = append(first, tell(i))
	}
	for i := len(first) - 1; i >= 0; i-- {
		if again := tell(i); again != first[i] {
			t.Errorf("%d: %s, then %s", i, first[i], again)
		}
	}
}
