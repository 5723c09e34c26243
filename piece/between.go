package piece

import (
	"strings"

	"placket/api"
)

// ahead are the bytes that may stand right behind a bracket's [, one behind the other: a ] among them doesn't close it.
var ahead = [...]byte{'^', ']'}

// Between reads what stands between delimiters, from a place on, in a regex or in a replacement: the text, and the place behind the delimiter that ends it. Of an error the place is where the chapter says that it is.
func Between(s string, at int, delimiter byte, regex bool) (string, int, api.Errno) {
	if !isPlace(s, at) {
		return "", 0, api.ErrRange
	}
	var text strings.Builder
	for at < len(s) {
		// The delimiter is looked for ahead of all else: one that is a [ , a backslash or the byte A is nothing else.
		if s[at] == delimiter {
			return text.String(), at + 1, api.OK
		}
		part, place, e := parsePart(s, at, delimiter, regex)
		if e != api.OK {
			return "", place, e
		}
		text.WriteString(part)
		at = place
	}
	return "", len(s), api.ErrEnd
}

// parsePart reads a byte that is no delimiter, or the bracket that it begins, or what a backslash makes of the byte behind it: what they stand for, and the place behind them.
func parsePart(s string, at int, delimiter byte, regex bool) (string, int, api.Errno) {
	if s[at] == '\\' {
		return parseEscaped(s, at, delimiter, regex)
	}
	end := at + 1
	if regex && s[at] == '[' {
		end = bracketEnd(s, at)
	}
	if i := strings.IndexByte(s[at:end], '\n'); i >= 0 {
		return "", at + i, api.ErrForm
	}
	return s[at:end], end, api.OK
}

// parseEscaped reads a backslash at a place, and the byte behind it: what they stand for, and the place behind them.
func parseEscaped(s string, at int, delimiter byte, regex bool) (string, int, api.Errno) {
	end := at + 2
	if end > len(s) {
		return "", len(s), api.ErrEnd
	}
	switch escaped := s[at+1]; {
	// It comes first, so that a delimiter that is the byte A may stand in a regex, too.
	case escaped == delimiter:
		return s[at+1 : end], end, api.OK
	case escaped == '\n' && regex:
		return "", at + 1, api.ErrForm
	}
	return s[at:end], end, api.OK
}

// bracketEnd is the place behind the bracket whose [ stands at a place; the text's end, if nothing closes it.
func bracketEnd(s string, at int) int {
	at++
	for _, b := range ahead {
		if at < len(s) && s[at] == b {
			at++
		}
	}
	if i := strings.IndexByte(s[at:], ']'); i >= 0 {
		return at + i + 1
	}
	return len(s)
}
