package snap

import (
	"reflect"
	"slices"
	"testing"
)

// span is where a list lies in memory, spare room too.
type span struct{ from, to uintptr }

// spans tells where all lists of v lie, and those within them, also in their spare room; texts may be shared.
func spans(v reflect.Value) []span {
	var l []span
	switch v.Kind() {
	case reflect.Struct:
		for i := range v.NumField() {
			l = append(l, spans(v.Field(i))...)
		}
	case reflect.Slice:
		all := v.Slice(0, v.Cap())
		if n := uintptr(all.Len()) * v.Type().Elem().Size(); n > 0 {
			l = append(l, span{v.Pointer(), v.Pointer() + n})
		}
		for i := range all.Len() {
			l = append(l, spans(all.Index(i))...)
		}
	}
	return l
}

// sharesMemory tells whether any two lists, of one value or of two, lie upon each other.
func sharesMemory(values ...any) bool {
	var all []span
	for _, v := range values {
		all = append(all, spans(reflect.ValueOf(v))...)
	}
	slices.SortFunc(all, func(a, b span) int {
		if a.from < b.from {
			return -1
		}
		return 1
	})
	for i := 1; i < len(all); i++ {
		if all[i].from < all[i-1].to {
			return true
		}
	}
	return false
}

func TestSharesMemory(t *testing.T) {
	l, twice, spare := []int{1, 2, 3}, some(), some()
	twice.Orders[1].Lines = twice.Orders[0].Lines
	spare.Doors = l[:1]
	for what, values := range map[string][]any{"lists": {l, l}, "a list and its end": {l, l[2:]}, "spare room": {l[:1], l[1:]}, "a state": {twice}, "a state and a list": {spare, l[2:]}} {
		if !sharesMemory(values...) {
			t.Errorf("%s: not seen", what)
		}
	}
	if sharesMemory(some(), some(), submit(), submit(), l[:2:2], l[2:]) {
		t.Error("seen where nothing is shared")
	}
}
