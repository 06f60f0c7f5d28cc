package snap

import (
	"fmt"
	"math"
	"reflect"
	"regexp"
	"slices"
	"strings"
	"testing"

	"packhorse/api"
)

var rightLabels = []string{
	"a", "z", "α", "ω", "ς", "a-", "a0", "o-7", "βox-9", "a---------------", "a123456789012345", "abcdefghijklmnop", "αβγδεζηθικλμνξοπ", "aβγδεζηθικλμνξοπ", "ωωωωωωωωωωωωωωωω",
}

var wrongLabels = []string{
	" ", "A", "aB", "9", "-", "9a", "-a", "a b", "a ", " a", "a_", "a\n", "a\x00", "\x00", "é", "Ω", "\u03b0", "\u03ca", "\xff", "a\xff", "\xce", "a\xce", "\xb1",
	"abcdefghijklmnopq", "αβγδεζηθικλμνξοπρ", "a----------------", strings.Repeat("a", 32), strings.Repeat("a", 33), strings.Repeat("ω", 64), strings.Repeat("a", 1<<16),
}

var someNumbers = []int64{
	0, 1, 2, 47, 95, 96, 97, 98, 127, 128, 129, 255, 256, 257, 352, 1<<16 + 1, 1 << 32, 1<<32 + 1, 1<<32 + 96, 999999999999, 1000000000000, 1000000000001, 1000000000002,
	1 << 40, 1<<40 + 1, 1 << 62, math.MaxInt64 - 1, math.MaxInt64, -1, -2, -95, -96, -97, -1 << 32, -1000000000000, -1 << 40, math.MinInt64 + 1, math.MinInt64,
}

var someKinds = []int{
	0, 1, 2, 3, 4, 5, 6, 7, 8, 9, 10, 11, 12, 13, 16, 64, 127, 128, 1<<8 + 1, 1<<8 + 6, 1<<16 + 6, 1<<32 + 1, 1<<32 + 6, 1<<32 + 8, math.MaxInt - 1, math.MaxInt,
	-1, -2, -6, -7, -8, -9, -1 << 8, -1<<8 + 6, -1 << 32, -1<<32 + 6, math.MinInt + 6, math.MinInt,
}

// one spares the tables the fields' names.
func one(sku string, qty, weight int64) api.Line {
	return api.Line{Sku: sku, Qty: qty, Weight: weight}
}

// row are n lines of unlike Skus, rising, with unlike Qtys and Weights.
func row(n int) []api.Line {
	var l []api.Line
	for i := range n {
		l = append(l, one(fmt.Sprintf("s%05d", i), int64(130*i%1000+1), int64(70*i%100000)))
	}
	return l
}

// someLines are lists that are LINES and such as aren't.
func someLines() [][]api.Line {
	lists := [][]api.Line{
		nil, {}, row(8)[:0], row(1), row(2), row(7), row(8), row(9), row(10), row(16), row(264), row(1 << 12), make([]api.Line, 1), make([]api.Line, 8), make([]api.Line, 9),
		{one("a", 1, 0)}, {one("a", 1000, 100000)}, {one("z", 1, 0), one("α", 1, 0)}, {one("box10", 1, 0), one("box9", 1, 0)},
		{one("a", 1, 0), one("a", 1, 0)}, {one("a", 1, 0), one("b", 1, 0), one("a", 1, 0)}, {one("b", 1, 0), one("a", 1, 0)}, {one("α", 1, 0), one("z", 1, 0)}, {one("box9", 1, 0), one("box10", 1, 0)},
		{one("", 1, 1)}, {one("", 0, 0)},
	}
	for _, sku := range slices.Concat(rightLabels, wrongLabels) {
		lists = append(lists, []api.Line{one(sku, 1, 1)})
	}
	for _, n := range []int64{math.MinInt64, -1 << 32, -1000, -1, 0, 1, 999, 1000, 1001, 1<<16 + 1, 1<<32 + 1, math.MaxInt64} {
		lists = append(lists, []api.Line{one("a", n, 1)}, []api.Line{one("a", 1, 1), one("b", n, 1)})
	}
	for _, n := range []int64{math.MinInt64, -1 << 32, -100000, -1, 0, 1, 99999, 100000, 100001, 1<<32 + 1, math.MaxInt64} {
		lists = append(lists, []api.Line{one("a", 1, n)}, []api.Line{one("a", 1, 1), one("b", 1, n)})
	}
	for i := range 8 {
		for _, spoil := range []func(*api.Line){
			func(l *api.Line) { l.Sku = "s!" }, func(l *api.Line) { l.Qty = 0 }, func(l *api.Line) { l.Qty = 1001 }, func(l *api.Line) { l.Weight = -1 }, func(l *api.Line) { l.Weight = 100001 },
		} {
			l := row(8)
			spoil(&l[i])
			lists = append(lists, l)
		}
	}
	return lists
}

func near() api.Group { return api.Group{Carrier: "ups", Zone: "n", Service: "fast"} }

func widest() api.Group {
	return api.Group{Carrier: "ωωωωωωωωωωωωωωωω", Zone: "αααααααααααααααα", Service: "ςςςςςςςςςςςςςςςς"}
}

// someGroups are such as can be, and such of which one part, or all, can't.
func someGroups() []api.Group {
	groups := []api.Group{{}, near(), widest(), {Carrier: "ups"}, {Zone: "n"}, {Service: "fast"}, {Carrier: "ups", Zone: "n"}, {Carrier: "ups", Service: "fast"}, {Zone: "n", Service: "fast"}}
	for _, s := range slices.Concat(rightLabels, wrongLabels) {
		g := near()
		groups = append(groups, api.Group{Carrier: s, Zone: g.Zone, Service: g.Service}, api.Group{Carrier: g.Carrier, Zone: s, Service: g.Service}, api.Group{Carrier: g.Carrier, Zone: g.Zone, Service: s}, api.Group{Carrier: s, Zone: s, Service: s})
	}
	return groups
}

func fullestLines() []api.Line {
	var l []api.Line
	for i := range 8 {
		l = append(l, one("ωωωωωωωωωωωωωωω"+string(rune('α'+i)), 1000, 100000))
	}
	return l
}

func submit() api.Command {
	return api.Command{Kind: api.DoSubmit, Id: "o-7", Lines: []api.Line{one("a", 300, 5), one("β", 1, 0)}, Group: near(), Total: 1999}
}

// bases are RIGHT commands of each kind: some, the leanest and the fullest that can be.
func bases() []api.Command {
	long := "αβγδεζηθικλμνξοπ"
	return []api.Command{
		submit(),
		{Kind: api.DoSubmit, Id: "a", Lines: []api.Line{one("b", 1, 0)}, Group: api.Group{Carrier: "c", Zone: "d", Service: "e"}},
		{Kind: api.DoSubmit, Id: long, Lines: fullestLines(), Group: widest(), Total: 1000000000000},
		{Kind: api.DoCancel, Id: "o-7"},
		{Kind: api.DoCancel, Id: long},
		{Kind: api.DoAmend, Id: "o-7", Group: near()},
		{Kind: api.DoAmend, Id: long, Group: widest()},
		{Kind: api.DoTick, Number: 1},
		{Kind: api.DoTick, Number: 96},
		{Kind: api.DoReply, Number: 1},
		{Kind: api.DoReply, Number: 128, Yes: true},
		{Kind: api.DoReply, Number: 1000000000000},
		{Kind: api.DoReply, Number: 1000000000000, Yes: true},
		{Kind: api.DoClose},
		{Kind: api.DoSend},
		{Kind: api.DoAsk, Id: "o-7"},
		{Kind: api.DoAsk, Id: long},
	}
}

// turnedCommands are all bases with each one of their fields turned alone, each to what can be there and to what can't.
func turnedCommands() []api.Command {
	all := bases()
	for _, base := range bases() {
		add := func(change func(*api.Command)) {
			c := base
			change(&c)
			all = append(all, c)
		}
		for _, kind := range someKinds {
			add(func(c *api.Command) { c.Kind = kind })
		}
		for _, id := range slices.Concat([]string{""}, rightLabels, wrongLabels) {
			add(func(c *api.Command) { c.Id = id })
		}
		for _, l := range someLines() {
			add(func(c *api.Command) { c.Lines = l })
		}
		for _, g := range someGroups() {
			add(func(c *api.Command) { c.Group = g })
		}
		for _, n := range someNumbers {
			add(func(c *api.Command) { c.Total = n })
			add(func(c *api.Command) { c.Number = n })
		}
		for _, yes := range []bool{false, true} {
			add(func(c *api.Command) { c.Yes = yes })
		}
	}
	return all
}

func rightCommands() []api.Command {
	return slices.DeleteFunc(turnedCommands(), func(c api.Command) bool { return !rightByWords(c) })
}

func wrongCommands() []api.Command {
	return slices.DeleteFunc(turnedCommands(), rightByWords)
}

var labelByWords = regexp.MustCompile(`\A[a-zα-ω][a-zα-ω0-9-]{0,15}\z`)

func isLabel(s string) bool { return labelByWords.MatchString(s) }

func within(n, least, most int64) bool { return n >= least && n <= most }

func linesByWords(l []api.Line) bool {
	for i, line := range l {
		if !isLabel(line.Sku) || !within(line.Qty, 1, 1000) || !within(line.Weight, 0, 100000) || i > 0 && l[i-1].Sku >= line.Sku {
			return false
		}
	}
	return within(int64(len(l)), 1, 8)
}

// hasByWords are the chapter's own words on what each kind has.
func hasByWords(kind int) []string {
	return map[int][]string{
		1: {"Id", "Lines", "Group", "Total"},
		2: {"Id"},
		3: {"Id", "Group"},
		4: {"Number"},
		5: {"Number", "Yes"},
		6: {},
		7: {},
		8: {"Id"},
	}[kind]
}

// rightByWords goes through the fields by their names.
func rightByWords(c api.Command) bool {
	has := hasByWords(c.Kind)
	if has == nil {
		return false
	}
	can := map[string]bool{
		"Id":     isLabel(c.Id),
		"Lines":  linesByWords(c.Lines),
		"Group":  isLabel(c.Group.Carrier) && isLabel(c.Group.Zone) && isLabel(c.Group.Service),
		"Total":  within(c.Total, 0, 1e12),
		"Number": within(c.Number, 1, map[int]int64{4: 96, 5: 1e12}[c.Kind]),
		"Yes":    true,
	}
	v := reflect.ValueOf(c)
	for i := range v.NumField() {
		name, field := v.Type().Field(i).Name, v.Field(i)
		zero := field.IsZero() || field.Kind() == reflect.Slice && field.Len() == 0
		if name != "Kind" && (slices.Contains(has, name) && !can[name] || !slices.Contains(has, name) && !zero) {
			return false
		}
	}
	return true
}

func TestRight(t *testing.T) {
	for i, c := range bases() {
		if !Right(c) || !rightByWords(c) {
			t.Errorf("base %d, %v: Right %v, by the words %v", i, c, Right(c), rightByWords(c))
		}
	}
	right := 0
	all := turnedCommands()
	for i, c := range all {
		want := rightByWords(c)
		if Right(c) != want {
			t.Errorf("command %d, %.300s: Right %v", i, fmt.Sprint(c), !want)
		}
		if want {
			right++
		}
	}
	if right < 500 || right > len(all)-2000 {
		t.Errorf("only one side is tried: %d of %d are RIGHT", right, len(all))
	}
}

func TestRightOfTheChaptersEdges(t *testing.T) {
	g, l := near(), row(1)
	for i, x := range []struct {
		c    api.Command
		want bool
	}{
		{api.Command{}, false},
		{api.Command{Kind: 9}, false},
		{api.Command{Kind: -1}, false},
		{api.Command{Kind: math.MaxInt}, false},
		{api.Command{Kind: math.MinInt}, false},
		{api.Command{Kind: 9, Id: "a"}, false},
		{api.Command{Kind: 0, Number: 1}, false},
		{api.Command{Kind: api.DoTick, Number: 0}, false},
		{api.Command{Kind: api.DoTick, Number: 1}, true},
		{api.Command{Kind: api.DoTick, Number: 96}, true},
		{api.Command{Kind: api.DoTick, Number: 97}, false},
		{api.Command{Kind: api.DoTick, Number: -1}, false},
		{api.Command{Kind: api.DoTick, Number: 5, Yes: true}, false},
		{api.Command{Kind: api.DoTick, Number: 5, Id: "a"}, false},
		{api.Command{Kind: api.DoReply, Number: 0}, false},
		{api.Command{Kind: api.DoReply, Number: 0, Yes: true}, false},
		{api.Command{Kind: api.DoReply, Number: 1}, true},
		{api.Command{Kind: api.DoReply, Number: 1, Yes: true}, true},
		{api.Command{Kind: api.DoReply, Number: 97}, true},
		{api.Command{Kind: api.DoReply, Number: api.MaxTally}, true},
		{api.Command{Kind: api.DoReply, Number: api.MaxTally, Yes: true}, true},
		{api.Command{Kind: api.DoReply, Number: api.MaxTally + 1}, false},
		{api.Command{Kind: api.DoReply, Number: 1, Total: 1}, false},
		{api.Command{Kind: api.DoSubmit, Id: "a", Lines: nil, Group: g}, false},
		{api.Command{Kind: api.DoSubmit, Id: "a", Lines: []api.Line{}, Group: g}, false},
		{api.Command{Kind: api.DoSubmit, Id: "a", Lines: row(1), Group: g}, true},
		{api.Command{Kind: api.DoSubmit, Id: "a", Lines: row(8), Group: g}, true},
		{api.Command{Kind: api.DoSubmit, Id: "a", Lines: row(9), Group: g}, false},
		{api.Command{Kind: api.DoSubmit, Id: "a", Lines: l, Group: g, Total: api.MaxTally}, true},
		{api.Command{Kind: api.DoSubmit, Id: "a", Lines: l, Group: g, Total: api.MaxTally + 1}, false},
		{api.Command{Kind: api.DoSubmit, Id: "a", Lines: l, Group: g, Total: -1}, false},
		{api.Command{Kind: api.DoSubmit, Id: "a", Lines: l}, false},
		{api.Command{Kind: api.DoSubmit, Id: "", Lines: l, Group: g}, false},
		{api.Command{Kind: api.DoSubmit, Id: "a", Lines: l, Group: g, Number: 1}, false},
		{api.Command{Kind: api.DoSubmit, Id: "a", Lines: l, Group: g, Yes: true}, false},
		{api.Command{Kind: api.DoCancel, Id: "a"}, true},
		{api.Command{Kind: api.DoCancel}, false},
		{api.Command{Kind: api.DoCancel, Id: "A"}, false},
		{api.Command{Kind: api.DoCancel, Id: "a", Lines: []api.Line{}}, true},
		{api.Command{Kind: api.DoCancel, Id: "a", Lines: l}, false},
		{api.Command{Kind: api.DoCancel, Id: "a", Group: g}, false},
		{api.Command{Kind: api.DoCancel, Id: "a", Total: 1}, false},
		{api.Command{Kind: api.DoCancel, Id: "a", Yes: true}, false},
		{api.Command{Kind: api.DoAmend, Id: "a", Group: g}, true},
		{api.Command{Kind: api.DoAmend, Id: "a"}, false},
		{api.Command{Kind: api.DoAmend, Group: g}, false},
		{api.Command{Kind: api.DoAmend, Id: "a", Group: api.Group{Carrier: "ups", Zone: "n"}}, false},
		{api.Command{Kind: api.DoAmend, Id: "a", Group: api.Group{Carrier: "ups", Service: "n"}}, false},
		{api.Command{Kind: api.DoAmend, Id: "a", Group: api.Group{Zone: "ups", Service: "n"}}, false},
		{api.Command{Kind: api.DoAmend, Id: "a", Group: g, Lines: l}, false},
		{api.Command{Kind: api.DoAmend, Id: "a", Group: g, Yes: true}, false},
		{api.Command{Kind: api.DoClose}, true},
		{api.Command{Kind: api.DoClose, Id: "a"}, false},
		{api.Command{Kind: api.DoClose, Lines: l}, false},
		{api.Command{Kind: api.DoClose, Group: api.Group{Zone: "n"}}, false},
		{api.Command{Kind: api.DoClose, Number: 1}, false},
		{api.Command{Kind: api.DoClose, Yes: true}, false},
		{api.Command{Kind: api.DoSend}, true},
		{api.Command{Kind: api.DoSend, Total: 1}, false},
		{api.Command{Kind: api.DoSend, Number: -1}, false},
		{api.Command{Kind: api.DoSend, Yes: true}, false},
		{api.Command{Kind: api.DoAsk, Id: "a"}, true},
		{api.Command{Kind: api.DoAsk}, false},
		{api.Command{Kind: api.DoAsk, Id: "a", Number: 1}, false},
		{api.Command{Kind: api.DoAsk, Id: "a", Yes: true}, false},
	} {
		if Right(x.c) != x.want || rightByWords(x.c) != x.want {
			t.Errorf("%d, %v: Right %v, by the words %v, want %v", i, x.c, Right(x.c), rightByWords(x.c), x.want)
		}
	}
}

// places change a command in one place each, each to what no other one makes of it.
func places() map[string]func(*api.Command) {
	return map[string]func(*api.Command){
		"nothing":             func(c *api.Command) {},
		"Kind":                func(c *api.Command) { c.Kind = api.DoAsk },
		"no Kind":             func(c *api.Command) { c.Kind = 0 },
		"Kind, far off":       func(c *api.Command) { c.Kind += 1 << 32 },
		"Id":                  func(c *api.Command) { c.Id += "a" },
		"no Id":               func(c *api.Command) { c.Id = "" },
		"the Id's case":       func(c *api.Command) { c.Id = "O-7" },
		"Carrier":             func(c *api.Command) { c.Group.Carrier += "a" },
		"Zone":                func(c *api.Command) { c.Group.Zone += "a" },
		"Service":             func(c *api.Command) { c.Group.Service += "a" },
		"no Group":            func(c *api.Command) { c.Group = api.Group{} },
		"Carrier and Zone":    func(c *api.Command) { c.Group.Carrier, c.Group.Zone = c.Group.Zone, c.Group.Carrier },
		"Total":               func(c *api.Command) { c.Total++ },
		"Total, far off":      func(c *api.Command) { c.Total += 1 << 32 },
		"Total, below":        func(c *api.Command) { c.Total = -c.Total },
		"Number":              func(c *api.Command) { c.Number++ },
		"Number, far off":     func(c *api.Command) { c.Number += 1 << 32 },
		"Number, below":       func(c *api.Command) { c.Number = -1 },
		"Total and Number":    func(c *api.Command) { c.Total, c.Number = c.Number, c.Total },
		"Yes":                 func(c *api.Command) { c.Yes = !c.Yes },
		"no Lines":            func(c *api.Command) { c.Lines = nil },
		"the first Line":      func(c *api.Command) { c.Lines = c.Lines[:1] },
		"the last Line":       func(c *api.Command) { c.Lines = c.Lines[1:] },
		"a Line more":         func(c *api.Command) { c.Lines = append(c.Lines, one("ω", 1, 1)) },
		"a Line of zeros":     func(c *api.Command) { c.Lines = append(c.Lines, api.Line{}) },
		"Lines swap":          func(c *api.Command) { c.Lines[0], c.Lines[1] = c.Lines[1], c.Lines[0] },
		"the first's Sku":     func(c *api.Command) { c.Lines[0].Sku += "a" },
		"the last's Sku":      func(c *api.Command) { c.Lines[1].Sku += "a" },
		"the first's Qty":     func(c *api.Command) { c.Lines[0].Qty++ },
		"the last's Qty":      func(c *api.Command) { c.Lines[1].Qty += 1 << 32 },
		"the first's Weight":  func(c *api.Command) { c.Lines[0].Weight = -1 },
		"the last's Weight":   func(c *api.Command) { c.Lines[1].Weight++ },
		"Qty and Weight swap": func(c *api.Command) { c.Lines[0].Qty, c.Lines[0].Weight = c.Lines[0].Weight, c.Lines[0].Qty },
	}
}

func TestSame(t *testing.T) {
	for what, change := range places() {
		for other, alter := range places() {
			a, b := submit(), submit()
			change(&a)
			alter(&b)
			if got := Same(a, b); got != (what == other) {
				t.Errorf("Same of one with %s and one with %s: %v", what, other, got)
			}
		}
	}
}

func TestSameOfNilAndEmpty(t *testing.T) {
	for _, c := range bases() {
		a, b, full := c, c, c
		a.Lines, b.Lines, full.Lines = nil, []api.Line{}, row(1)
		if !Same(a, b) || !Same(b, a) || !Same(a, a) || !Same(b, b) {
			t.Errorf("%v: nil and empty aren't one", c)
		}
		if Same(a, full) || Same(full, b) || Same(b, full) {
			t.Errorf("%v: none and one are the same", c)
		}
		b.Lines = row(8)[:0]
		if !Same(a, b) || Same(b, full) {
			t.Errorf("%v: spare room is seen", c)
		}
	}
	if !Same(api.Command{}, api.Command{Lines: []api.Line{}}) {
		t.Error("a command of nothing")
	}
}

// TestSameOfEachTwo asks of commands whether they are RIGHT or not.
func TestSameOfEachTwo(t *testing.T) {
	all := turnedCommands()
	plain := slices.Clone(all)
	for i := range plain {
		plain[i].Lines = slices.Concat([]api.Line{}, plain[i].Lines)
		if plain[i].Lines == nil {
			plain[i].Lines = []api.Line{}
		}
	}
	for i, a := range all {
		if !Same(a, a) || !Same(a, plain[i]) {
			t.Fatalf("command %d isn't the same as itself", i)
		}
		for j := i % 61; j < len(all); j += 61 {
			want := reflect.DeepEqual(plain[i], plain[j])
			if Same(a, all[j]) != want || Same(all[j], a) != want {
				t.Fatalf("Same of command %d and command %d: %v", i, j, !want)
			}
		}
	}
}

// TestRightAndSameLeaveLines: what they are handed stays as it was, spare room too.
func TestRightAndSameLeaveLines(t *testing.T) {
	for i, l := range someLines() {
		room := append(slices.Clone(l), one("spare", 9, 9), one("room", 0, 0))
		was := slices.Clone(room)
		c := submit()
		c.Lines = room[:len(l)]
		if Right(c) != linesByWords(l) || !Same(c, c) || !reflect.DeepEqual(room, was) {
			t.Errorf("lines %d: changed, or not as they are", i)
		}
	}
}
