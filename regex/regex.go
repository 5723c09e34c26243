// Package regex is what the texts of both kinds of regexes have in common: bytes behind a backslash, and intervals: see shared/doc/04-bre.md and 05-ere.md.
package regex

import (
	"strings"

	"placket/api"
	"placket/octet"
)

// maxDigits is how many digits a bound of an interval has at most.
const maxDigits = 3

// Escaped is the set of a byte behind a backslash that is an atom with it, and whether the two are an extension; false at last, if they are no such atom.
// Bytes of punct that mean something else in one kind of regex (as \( in a basic one) are looked for ahead of this call.
func Escaped(b byte) (set octet.Set, extension, ok bool) {
	word := class("alnum").Or(octet.Of('_'))
	switch b {
	case 'n':
		return octet.Of('\n'), false, true
	case 't':
		return octet.Of('\t'), true, true
	case 'w':
		return word, true, true
	case 'W':
		return word.Not(), true, true
	case 's':
		return class("space"), true, true
	case 'S':
		return class("space").Not(), true, true
	}
	if class("punct").Has(b) {
		return octet.Of(b), false, true
	}
	return octet.Set{}, false, false
}

// class is the bytes of a class that there is.
func class(name string) octet.Set {
	set, _ := octet.Class(name)
	return set
}

// Interval reads the bounds at the beginning of a text, up to the closer behind them: least and most (-1: without an end), and how many bytes they take with the closer; false, if they are no interval.
func Interval(text, closer string) (least, most, length int, ok bool) {
	least, most, rest, ok := bounds(text, closer)
	behind, closed := strings.CutPrefix(rest, closer)
	if !ok || !closed {
		return 0, 0, 0, false
	}
	return least, most, len(text) - len(behind), true
}

// bounds reads the bounds at the beginning of a text, and tells what stands behind them; false, if there are none, or if they don't fit together.
func bounds(text, closer string) (least, most int, rest string, ok bool) {
	least, rest, ok = bound(text)
	behind, comma := strings.CutPrefix(rest, ",")
	if !ok || !comma {
		return least, least, rest, ok
	}
	if strings.HasPrefix(behind, closer) {
		return least, -1, behind, true
	}
	most, rest, ok = bound(behind)
	return least, most, rest, ok && least <= most
}

// bound reads the digits at the beginning of a text, and tells what stands behind them; false, if there are none, or if they are too great.
func bound(text string) (value int, rest string, ok bool) {
	digits := 0
	for _, sign := range text {
		// What more digits there are is left standing: neither a comma nor a closer, it makes the interval none.
		if sign < '0' || sign > '9' || digits == maxDigits {
			break
		}
		value = 10*value + int(sign-'0')
		digits++
	}
	return value, text[digits:], digits > 0 && value <= api.MaxBound
}
