// Package delimited is what an address and an s have in common: a regex between delimiters of a script: see shared/doc/12-addr.md and 13-cmd.md.
package delimited

import (
	"placket/api"
	"placket/bre"
	"placket/ere"
	"placket/piece"
	"placket/tree"
)

// Regex is a regex as a script has it: its text, its tree, and its marks, at their places of the script.
type Regex struct {
	Text  string
	Tree  tree.Node
	Marks []api.Mark
}

// Parse reads a regex from where it begins, and the delimiter behind it: the regex, and the place behind that delimiter. Of an error of the text it is the place of chapter 11, of one of the regex that where the regex begins.
func Parse(s string, begin int, delimiter byte, extended bool) (Regex, int, api.Errno) {
	text, place, e := piece.Between(s, begin, delimiter, true)
	if e != api.OK {
		return Regex{}, place, e
	}
	if text == "" {
		return Regex{}, begin, api.ErrForm
	}
	parse := bre.Parse
	if extended {
		parse = ere.Parse
	}
	// Its error is told where it begins: within, a delimiter that lost its backslash may have moved the places.
	node, own, _, e := parse(text)
	if e != api.OK {
		return Regex{}, begin, e
	}
	return Regex{Text: text, Tree: node, Marks: moved(own, begin)}, place, api.OK
}

// moved is marks, so many places farther on.
func moved(marks []api.Mark, by int) []api.Mark {
	var all []api.Mark
	for _, mark := range marks {
		all = append(all, api.Mark{At: mark.At + by, Word: mark.Word})
	}
	return all
}
