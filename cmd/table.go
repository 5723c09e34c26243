package cmd

import (
	"placket/api"
	"placket/piece"
)

// readTable reads the two lists of a y, and what ends the command.
func (r *reader) readTable() api.Errno {
	delimiter, e := r.readDelimiter()
	if e != api.OK {
		return e
	}
	from, second, e := piece.Between(r.text, r.at, delimiter, false)
	if e != api.OK {
		r.at = second
		return e
	}
	to, place, e := piece.Between(r.text, second, delimiter, false)
	if e != api.OK {
		r.at = place
		return e
	}
	table, e := tableOf(from, to)
	if e != api.OK {
		r.at = second
		return e
	}
	r.command.Table, r.at = table, place
	return r.readEnd()
}

// tableOf is what the two lists make of each byte.
func tableOf(from, to string) (string, api.Errno) {
	keys, keysFit := listOf(from)
	values, valuesFit := listOf(to)
	if !keysFit || !valuesFit || len(keys) != len(values) {
		return "", api.ErrMap
	}
	var table [256]byte
	for i := range len(table) {
		table[i] = byte(i)
	}
	var stood [256]bool
	for i, key := range keys {
		if stood[key] {
			return "", api.ErrTwice
		}
		stood[key] = true
		table[key] = values[i]
	}
	return string(table[:]), api.OK
}

// listOf is the bytes that a list's text stands for; false, if it is none.
func listOf(text string) ([]byte, bool) {
	var list []byte
	escaped := false
	for i := range len(text) {
		b := text[i]
		switch {
		case !escaped && b == '\\':
			escaped = true
			continue
		case escaped && b == 'n':
			b = '\n'
		case escaped && b != '\\':
			return nil, false
		}
		list = append(list, b)
		escaped = false
	}
	return list, !escaped
}
