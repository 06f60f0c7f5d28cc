// Package label is layer 1: what orders and things are called. See shared/doc/01-label.md.
package label

import (
	"strings"

	"packhorse/api"
)

const blank = " "

func isLetter(r rune) bool {
	return 'a' <= r && r <= 'z' || 'α' <= r && r <= 'ω'
}

func isDigit(r rune) bool {
	return '0' <= r && r <= '9'
}

// isSign needs no word on bytes that are not UTF-8: a range over a text tells them as U+FFFD, which is no SIGN.
func isSign(r rune) bool {
	return isLetter(r) || isDigit(r) || r == '-'
}

// Right tells whether s is a label.
func Right(s string) bool {
	return Signs(s) > 0
}

// Signs tells how many SIGNS the label s has; -1, if it is none.
func Signs(s string) int {
	count := 0
	for _, r := range s {
		if !isSign(r) || count == 0 && !isLetter(r) {
			return -1
		}
		// Stopping here keeps a very long text as cheap as a short one.
		if count == api.MaxLabel {
			return -1
		}
		count++
	}
	if count == 0 {
		return -1
	}
	return count
}

// Compare tells -1, 0 or 1, as a stands ahead of b, is b, or stands behind it. The texts need not be labels.
func Compare(a, b string) int {
	return strings.Compare(a, b)
}

// Join lays the texts behind each other, with a blank between two.
func Join(l ...string) string {
	return strings.Join(l, blank)
}

// Split tells the labels of which s is the Join; ErrLabel, if there are none such.
func Split(s string) ([]string, api.Errno) {
	// Join of no label is the empty text, which a cut at blanks would take for one empty label.
	if s == "" {
		return nil, api.OK
	}
	var labels []string
	for rest, more := s, true; more; {
		var first string
		first, rest, more = strings.Cut(rest, blank)
		if !Right(first) {
			return nil, api.ErrLabel
		}
		labels = append(labels, first)
	}
	return labels, api.OK
}

// Cut tells the first n SIGNS of the label s, or all that it has; nothing, if s is no label.
func Cut(s string, n int) string {
	if !Right(s) || n < 1 {
		return ""
	}
	count := 0
	for at := range s {
		if count == n {
			return s[:at]
		}
		count++
	}
	return s
}

// Next tells the label that follows s by the digits at its end; ErrLabel, if s is no label, or what follows would be too long.
func Next(s string) (string, api.Errno) {
	if !Right(s) {
		return "", api.ErrLabel
	}
	at := digitsAt(s)
	next := s[:at] + oneMore(s[at:])
	if !Right(next) {
		return "", api.ErrLabel
	}
	return next, api.OK
}

// digitsAt tells where the digits at the end of s begin; its length, if there are none.
func digitsAt(s string) int {
	begin := len(s)
	for at, r := range s {
		if !isDigit(r) {
			begin = len(s)
		} else if begin == len(s) {
			begin = at
		}
	}
	return begin
}

// oneMore works on the digits as a text, so that noughts at the beginning stay.
func oneMore(digits string) string {
	if digits == "" {
		return "0"
	}
	kept := strings.TrimRight(digits, "9")
	noughts := strings.Repeat("0", len(digits)-len(kept))
	if kept == "" {
		return "1" + noughts
	}
	last := len(kept) - 1
	return kept[:last] + string(rune(kept[last]+1)) + noughts
}
