package order

import (
	"fmt"
	"math"
	"reflect"
	"regexp"
	"slices"
	"strings"
	"testing"

	"packhorse/api"
)

var rightLabels = []string{
	"a", "z", "α", "ω", "ς", "a-", "a0", "o-7", "βox-9", "a---------------", "α---------------", "a123456789012345",
	"abcdefghijklmnop", "αβγδεζηθικλμνξοπ", "aβγδεζηθικλμνξοπ", "ωωωωωωωωωωωωωωωω",
}

var wrongLabels = []string{
	"", " ", "A", "aB", "9", "-", "9a", "-a", "a b", "a ", " a", "a_", "a\n", "a\x00", "\x00", "é", "Ω", "\u03b0", "\u03ca", "\xff", "a\xff", "\xce", "a\xce", "\xb1",
	"abcdefghijklmnopq", "αβγδεζηθικλμνξοπρ", "aβγδεζηθικλμνξοπρ", "a----------------", strings.Repeat("a", 32), strings.Repeat("a", 33), strings.Repeat("ω", 64), strings.Repeat("a", 1<<16),
}

var wrongTallies = []int64{math.MinInt64, math.MinInt64 + 1, -1 << 40, -1000000000001, -1000000000000, -1 << 32, -2, -1, 1000000000001, 1000000000002, 1 << 40, 1<<40 + 1, 1 << 62, math.MaxInt64 - 1, math.MaxInt64}

var wrongPhases = []int{math.MinInt, math.MinInt + 1, -1 << 32, -256, -13, -12, -8, -3, -1, 0, 13, 14, 15, 16, 64, 1<<8 + 3, 1<<8 + 8, 1<<16 + 8, 1<<32 + 3, 1<<32 + 8, 1<<32 + 12, math.MaxInt - 1, math.MaxInt}

var wrongRefusals = []int{math.MinInt, math.MinInt + 1, -1 << 32, -1000001, -1000000, -2, -1, 1000001, 1000002, 1 << 20, 1 << 32, 1<<32 + 1, math.MaxInt - 1, math.MaxInt}

// wrongLines are lists that are no LINES.
func wrongLines() [][]api.Line {
	lists := [][]api.Line{
		nil, {}, row(8)[:0], row(9), row(10), row(16), row(264), row(1 << 12), make([]api.Line, 1), make([]api.Line, 9),
		{one("a", 1, 0), one("a", 1, 0)}, {one("a", 1, 1), one("a", 2, 1)}, {one("a", 1, 0), one("b", 1, 0), one("a", 1, 0)}, {one("a", 1, 0), one("b", 1, 0), one("b", 1, 0)},
		{one("b", 1, 0), one("a", 1, 0)}, {one("α", 1, 0), one("z", 1, 0)}, {one("box9", 1, 0), one("box10", 1, 0)},
	}
	for _, sku := range wrongLabels {
		lists = append(lists, []api.Line{one(sku, 1, 1)})
	}
	for _, n := range []int64{math.MinInt64, -1 << 32, -1000, -1, 0, 1001, 1002, 1<<16 + 1, 1<<32 + 1, math.MaxInt64} {
		lists = append(lists, []api.Line{one("a", n, 1)}, []api.Line{one("a", 1, 1), one("b", n, 1)})
	}
	for _, n := range []int64{math.MinInt64, -1 << 32, -100000, -1, 100001, 100002, 1<<32 + 1, math.MaxInt64} {
		lists = append(lists, []api.Line{one("a", 1, n)}, []api.Line{one("a", 1, 1), one("b", 1, n)})
	}
	for i := range 8 {
		for _, spoil := range []func(*api.Line){
			func(l *api.Line) { l.Sku = "s!" }, func(l *api.Line) { l.Qty = 0 }, func(l *api.Line) { l.Qty = 1001 }, func(l *api.Line) { l.Weight = -1 }, func(l *api.Line) { l.Weight = 100001 },
		} {
			l := row(8)
			spoil(&l[i])
			lists = append(lists, l)
		}
	}
	return lists
}

// one spares the tables the fields' names.
func one(sku string, qty, weight int64) api.Line {
	return api.Line{Sku: sku, Qty: qty, Weight: weight}
}

// row are n lines of unlike Skus, rising, with unlike Qtys and Weights.
func row(n int) []api.Line {
	var l []api.Line
	for i := range n {
		l = append(l, one(fmt.Sprintf("s%05d", i), int64(130*i%1000+1), int64(70*i%100000)))
	}
	return l
}

func some() api.Order {
	return api.Order{Id: "o-7", Lines: []api.Line{one("a", 300, 5), one("β", 1, 0)}, Group: api.Group{Carrier: "ups", Zone: "n", Service: "fast"}, Total: 1999, Saga: api.Saga{Phase: api.Voiding, Given: true, Refusals: 2}}
}

// with is some order in which something is changed.
func with(change func(*api.Order)) api.Order {
	o := some()
	change(&o)
	return o
}

// fullest has as much of everything as can be.
func fullest() api.Order {
	o := api.Order{Id: "αβγδεζηθικλμνξοπ", Group: api.Group{Carrier: "ωωωωωωωωωωωωωωωω", Zone: "αααααααααααααααα", Service: "ςςςςςςςςςςςςςςςς"}, Total: 1000000000000, Saga: api.Saga{Phase: api.Sending, Given: true, Refusals: 1000000}, Batch: 1000000000000}
	for i := range 8 {
		o.Lines = append(o.Lines, one("ωωωωωωωωωωωωωωω"+string(rune('α'+i)), 1000, 100000))
	}
	return o
}

func leanest() api.Order {
	return api.Order{Id: "a", Lines: []api.Line{one("b", 1, 0)}, Group: api.Group{Carrier: "c", Zone: "d", Service: "e"}, Saga: api.Saga{Phase: api.Reserving}}
}

// batchOf tells a number of a batch that goes with the phase.
func batchOf(phase int) int64 {
	if phase >= 3 && phase <= 6 {
		return 17
	}
	return 0
}

func rightOrders() []api.Order {
	orders := []api.Order{some(), fullest(), leanest()}
	add := func(change func(*api.Order)) { orders = append(orders, with(change)) }
	for _, s := range rightLabels {
		add(func(o *api.Order) { o.Id = s })
		add(func(o *api.Order) { o.Group.Carrier = s })
		add(func(o *api.Order) { o.Group.Zone = s })
		add(func(o *api.Order) { o.Group.Service = s })
		add(func(o *api.Order) { o.Lines = []api.Line{one(s, 1, 1)} })
		add(func(o *api.Order) { o.Id, o.Group = s, api.Group{Carrier: s, Zone: s, Service: s} })
	}
	for n := 1; n <= 8; n++ {
		add(func(o *api.Order) { o.Lines = row(n) })
	}
	for _, l := range []api.Line{one("a", 1, 0), one("a", 2, 1), one("a", 999, 99999), one("a", 1000, 100000), one("a", 1000, 0), one("a", 1, 100000), one("a", 127, 128), one("a", 128, 127)} {
		add(func(o *api.Order) { o.Lines = []api.Line{l} })
	}
	for _, n := range []int64{0, 1, 127, 128, 16383, 16384, 1 << 32, 999999999999, 1000000000000} {
		add(func(o *api.Order) { o.Total = n })
	}
	for _, n := range []int{0, 1, 2, 127, 128, 999999, 1000000} {
		add(func(o *api.Order) { o.Saga.Refusals = n })
	}
	for phase := 1; phase <= 12; phase++ {
		for _, given := range []bool{false, true} {
			add(func(o *api.Order) { o.Saga.Phase, o.Saga.Given, o.Batch = phase, given, batchOf(phase) })
		}
	}
	for phase := 3; phase <= 6; phase++ {
		for _, n := range []int64{1, 2, 127, 128, 1 << 32, 999999999999, 1000000000000} {
			add(func(o *api.Order) { o.Saga.Phase, o.Batch = phase, n })
		}
	}
	return orders
}

// wrongOrders are such that one thing alone is wrong with each.
func wrongOrders() []api.Order {
	orders := []api.Order{}
	add := func(change func(*api.Order)) {
		orders = append(orders, with(change))
		o := fullest()
		change(&o)
		orders = append(orders, o)
	}
	for _, s := range wrongLabels {
		add(func(o *api.Order) { o.Id = s })
		add(func(o *api.Order) { o.Group.Carrier = s })
		add(func(o *api.Order) { o.Group.Zone = s })
		add(func(o *api.Order) { o.Group.Service = s })
	}
	for _, l := range wrongLines() {
		add(func(o *api.Order) { o.Lines = l })
	}
	for _, n := range wrongTallies {
		add(func(o *api.Order) { o.Total = n })
		for phase := 1; phase <= 12; phase++ {
			add(func(o *api.Order) { o.Saga.Phase, o.Batch = phase, n })
		}
	}
	for _, n := range wrongRefusals {
		add(func(o *api.Order) { o.Saga.Refusals = n })
	}
	for _, n := range wrongPhases {
		add(func(o *api.Order) { o.Saga.Phase, o.Batch = n, 0 })
		add(func(o *api.Order) { o.Saga.Phase, o.Batch = n, 17 })
	}
	for phase := 3; phase <= 6; phase++ {
		add(func(o *api.Order) { o.Saga.Phase, o.Batch = phase, 0 })
	}
	for _, phase := range []int{1, 2, 7, 8, 9, 10, 11, 12} {
		for _, n := range []int64{1, 17, 1000000000000} {
			add(func(o *api.Order) { o.Saga.Phase, o.Batch = phase, n })
		}
	}
	return append(orders, api.Order{})
}

var labelByWords = regexp.MustCompile(`\A[a-zα-ω][a-zα-ω0-9-]{0,15}\z`)

// rightByWords goes by the chapter's own words, and by those of the layers that it names.
func rightByWords(o api.Order) bool {
	within := func(n, least, most int64) bool { return n >= least && n <= most }
	for _, s := range []string{o.Id, o.Group.Carrier, o.Group.Zone, o.Group.Service} {
		if !labelByWords.MatchString(s) {
			return false
		}
	}
	last := ""
	for _, l := range o.Lines {
		if !labelByWords.MatchString(l.Sku) || l.Sku <= last || !within(l.Qty, 1, 1000) || !within(l.Weight, 0, 100000) {
			return false
		}
		last = l.Sku
	}
	inBatch := slices.Contains([]int{3, 4, 5, 6}, o.Saga.Phase)
	return within(int64(len(o.Lines)), 1, 8) && within(o.Total, 0, 1e12) && within(int64(o.Saga.Phase), 1, 12) && within(int64(o.Saga.Refusals), 0, 1e6) &&
		(inBatch && within(o.Batch, 1, 1e12) || !inBatch && o.Batch == 0)
}

func TestRight(t *testing.T) {
	for i, o := range rightOrders() {
		if !Right(o) || !rightByWords(o) {
			t.Errorf("order %d, %v: Right %v, by the words %v", i, o, Right(o), rightByWords(o))
		}
	}
	for i, o := range wrongOrders() {
		if Right(o) || rightByWords(o) {
			t.Errorf("order %d, %.300s: Right %v, by the words %v", i, fmt.Sprint(o), Right(o), rightByWords(o))
		}
	}
}

func TestRightAtEachPhaseAndBatch(t *testing.T) {
	for phase := -40; phase <= 300; phase++ {
		for _, batch := range append([]int64{0, 1, 2, 17, 999999999999, 1000000000000}, wrongTallies...) {
			for _, given := range []bool{false, true} {
				for _, refusals := range []int{-1, 0, 1000000, 1000001} {
					o := with(func(o *api.Order) { o.Saga, o.Batch = api.Saga{Phase: phase, Given: given, Refusals: refusals}, batch })
					if Right(o) != rightByWords(o) {
						t.Errorf("phase %d, batch %d, %d refusals: Right %v", phase, batch, refusals, Right(o))
					}
				}
			}
		}
	}
}

// places change an order in one place each.
func places() map[string]func(*api.Order) {
	all := map[string]func(*api.Order){
		"nothing":          func(o *api.Order) {},
		"Id":               func(o *api.Order) { o.Id += "a" },
		"no Id":            func(o *api.Order) { o.Id = "" },
		"the Id's case":    func(o *api.Order) { o.Id = "O-7" },
		"Carrier":          func(o *api.Order) { o.Group.Carrier += "a" },
		"Zone":             func(o *api.Order) { o.Group.Zone += "a" },
		"Service":          func(o *api.Order) { o.Group.Service += "a" },
		"Total":            func(o *api.Order) { o.Total++ },
		"Total, far off":   func(o *api.Order) { o.Total += 1 << 32 },
		"Phase":            func(o *api.Order) { o.Saga.Phase = api.Releasing },
		"no Phase":         func(o *api.Order) { o.Saga.Phase = 0 },
		"Given":            func(o *api.Order) { o.Saga.Given = !o.Saga.Given },
		"Refusals":         func(o *api.Order) { o.Saga.Refusals++ },
		"Refusals, far":    func(o *api.Order) { o.Saga.Refusals += 1 << 32 },
		"Batch":            func(o *api.Order) { o.Batch = 1 },
		"Batch, far off":   func(o *api.Order) { o.Batch = 1 << 32 },
		"Batch, below":     func(o *api.Order) { o.Batch = -1 },
		"no Lines":         func(o *api.Order) { o.Lines = nil },
		"a Line fewer":     func(o *api.Order) { o.Lines = o.Lines[:len(o.Lines)-1] },
		"the first Line":   func(o *api.Order) { o.Lines = o.Lines[1:] },
		"a Line more":      func(o *api.Order) { o.Lines = append(o.Lines, one("ω", 1, 1)) },
		"an empty Line":    func(o *api.Order) { o.Lines = append(o.Lines, api.Line{}) },
		"Lines backward":   func(o *api.Order) { slices.Reverse(o.Lines) },
		"first Lines swap": func(o *api.Order) { o.Lines[0], o.Lines[1] = o.Lines[1], o.Lines[0] },
	}
	for i := range 4 {
		all[fmt.Sprint("Sku ", i)] = func(o *api.Order) { o.Lines[i].Sku += "a" }
		all[fmt.Sprint("Qty ", i)] = func(o *api.Order) { o.Lines[i].Qty++ }
		all[fmt.Sprint("Weight ", i)] = func(o *api.Order) { o.Lines[i].Weight++ }
	}
	return all
}

func TestSame(t *testing.T) {
	made := func(change func(*api.Order)) api.Order {
		o := with(func(o *api.Order) { o.Lines = row(4) })
		change(&o)
		return o
	}
	for a, changeA := range places() {
		for b, changeB := range places() {
			if got := Same(made(changeA), made(changeB)); got != (a == b) {
				t.Errorf("Same of one with %s and one with %s: %v", a, b, got)
			}
		}
	}
}

func TestSameOfEachTwo(t *testing.T) {
	orders := append(rightOrders(), wrongOrders()...)
	for i := range orders {
		for j := i % 7; j < len(orders); j += 7 {
			a, b := orders[i], orders[j]
			alike := len(a.Lines) == 0 && len(b.Lines) == 0 || reflect.DeepEqual(a.Lines, b.Lines)
			a.Lines, b.Lines = nil, nil
			alike = alike && reflect.DeepEqual(a, b)
			if got := Same(orders[i], orders[j]); got != alike || got != Same(orders[j], orders[i]) {
				t.Fatalf("Same of order %d and order %d: %v", i, j, got)
			}
		}
	}
}

func TestSameOfNilAndEmpty(t *testing.T) {
	lists := [][]api.Line{nil, {}, row(3)[:0], make([]api.Line, 0, 9)}
	for i, a := range lists {
		for j, b := range lists {
			for _, o := range []api.Order{some(), fullest(), {}} {
				x, y := o, o
				x.Lines, y.Lines = a, b
				if !Same(x, y) {
					t.Errorf("Lines %d and %d: not the same", i, j)
				}
			}
		}
		if Same(some(), with(func(o *api.Order) { o.Lines = a })) || Same(with(func(o *api.Order) { o.Lines = []api.Line{{}} }), with(func(o *api.Order) { o.Lines = a })) {
			t.Errorf("Lines %d: the same as some", i)
		}
	}
}

// kept lays a list into memory with room behind it, and tells whether all of that is still as it was.
func kept(l []api.Line) (given []api.Line, asItWas func() bool) {
	room := append(slices.Clone(l), one("spare", 7, 7), one("a", 1, 1), api.Line{})
	was := slices.Clone(room)
	return room[:len(l)], func() bool { return slices.Equal(room, was) }
}

// scribble writes over a list, spare room too.
func scribble(l []api.Line) {
	for i := range l[:cap(l)] {
		l[:cap(l)][i] = one("scribble", -1, -1)
	}
}

func TestCopy(t *testing.T) {
	for i, o := range append(rightOrders(), wrongOrders()...) {
		given, asItWas := kept(o.Lines)
		want := with(func(x *api.Order) { *x = o; x.Lines = slices.Clone(o.Lines) })
		o.Lines = given
		first, second := Copy(o), Copy(o)
		if !Same(first, want) || !Same(second, want) || !asItWas() {
			t.Errorf("order %d: %.300s", i, fmt.Sprint(first))
		}
		scribble(first.Lines)
		if !Same(second, want) || !asItWas() {
			t.Errorf("order %d: a copy shares memory", i)
		}
		scribble(given)
		if !Same(second, want) {
			t.Errorf("order %d: what was handed in is kept", i)
		}
	}
}

// TestCopyOfNoLines: what is laid behind the Lines of either is not seen in the other.
func TestCopyOfNoLines(t *testing.T) {
	room := row(4)
	for _, l := range [][]api.Line{nil, {}, room[:0], room[:2]} {
		o := with(func(o *api.Order) { o.Lines = l })
		c := Copy(o)
		if !Same(o, c) || len(c.Lines) != len(l) {
			t.Errorf("%d lines: %v", len(l), c)
		}
		if got := append(c.Lines, one("behind", 1, 1)); len(got) != len(l)+1 || !slices.Equal(room, row(4)) {
			t.Errorf("%d lines: a copy shares the spare room", len(l))
		}
	}
}

func TestPhases(t *testing.T) {
	known := map[int]string{
		1: "reserving", 2: "authorising", 3: "waiting", 4: "picking", 5: "packed", 6: "sending",
		7: "capturing", 8: "shipped", 9: "voiding", 10: "releasing", 11: "compensated", 12: "stuck",
	}
	numbers := slices.Clone(wrongPhases)
	for n := -5000; n <= 5000; n++ {
		numbers = append(numbers, n)
	}
	for bit := range 63 {
		for n := range 14 {
			if bit > 3 {
				numbers = append(numbers, 1<<bit+n, -1<<bit+n, -1<<bit-n)
			}
		}
	}
	for _, n := range numbers {
		name := known[n]
		over := name == "shipped" || name == "compensated" || name == "stuck"
		undoing := name == "voiding" || name == "releasing"
		if Phase(n) != name || Over(n) != over || Undoing(n) != undoing {
			t.Errorf("%d: %q, over %v, undoing %v", n, Phase(n), Over(n), Undoing(n))
		}
	}
}

func TestPhasesByTheirConstants(t *testing.T) {
	for i, n := range []int{
		api.Reserving, api.Authorising, api.Waiting, api.Picking, api.Packed, api.Sending,
		api.Capturing, api.Shipped, api.Voiding, api.Releasing, api.Compensated, api.Stuck,
	} {
		if n != i+1 || Phase(n) == "" {
			t.Errorf("phase %d has the number %d and the name %q", i+1, n, Phase(n))
		}
	}
}

// TestOrdersStay: what is asked of an order leaves its Lines as they were, spare room too, be it RIGHT or not.
func TestOrdersStay(t *testing.T) {
	for i, o := range append(rightOrders(), wrongOrders()...) {
		given, asItWas := kept(o.Lines)
		other, otherAsItWas := kept(o.Lines)
		o.Lines = given
		p := o
		p.Lines = other
		Right(o)
		Same(o, p)
		Put(nil, o)
		Copy(o)
		if !asItWas() || !otherAsItWas() {
			t.Errorf("order %d: changed", i)
		}
	}
}

// TestAnswersStay: P1 and P2 for this layer: nothing makes a call panic, and a second asking is answered like the first.
func TestAnswersStay(t *testing.T) {
	orders := append(rightOrders(), wrongOrders()...)
	tell := func(i int) string {
		a, b := orders[i], orders[(i+1)%len(orders)]
		put := Put([]byte("ahead"), a)
		o, errno := taken(put[len("ahead"):])
		return fmt.Sprint(Right(a), Same(a, b), Copy(a), Phase(a.Saga.Phase), Over(a.Saga.Phase), Undoing(a.Saga.Phase), put, o, errno)
	}
	var first []string
	for i := range orders {
		first = append(first, tell(i))
	}
	for i := len(orders) - 1; i >= 0; i-- {
		if tell(i) != first[i] {
			t.Errorf("order %d: answered otherwise", i)
		}
	}
}
