package cmd

import (
	"strings"

	"placket/api"
	"placket/delimited"
	"placket/piece"
	"placket/tree"
)

// readSub reads what an s takes, and what ends the command.
func (r *reader) readSub() api.Errno {
	delimiter, e := r.readDelimiter()
	if e != api.OK {
		return e
	}
	if e := r.readRegex(delimiter); e != api.OK {
		return e
	}
	if e := r.readReplacement(delimiter); e != api.OK {
		return e
	}
	return r.readFlags()
}

// readRegex reads the regex, and the delimiter behind it.
func (r *reader) readRegex(delimiter byte) api.Errno {
	regex, place, e := delimited.Parse(r.text, r.at, delimiter, r.extended)
	r.at = place
	r.command.Sub.Text, r.command.Sub.Tree = regex.Text, regex.Tree
	r.marks = append(r.marks, regex.Marks...)
	return e
}

// readReplacement reads the replacement, and the delimiter behind it.
func (r *reader) readReplacement(delimiter byte) api.Errno {
	text, place, e := piece.Between(r.text, r.at, delimiter, false)
	if e != api.OK {
		r.at = place
		return e
	}
	parts, e := partsOf(text, tree.Groups(r.command.Sub.Tree))
	if e != api.OK {
		// What is wrong with a replacement is told where it begins: there the reader still is.
		return e
	}
	r.command.Sub.Parts, r.at = parts, place
	return api.OK
}

// partsOf is a replacement's parts, by how many groups the regex has.
func partsOf(text string, groups int) ([]Part, api.Errno) {
	var made maker
	escaped := false
	for i := range len(text) {
		b := text[i]
		switch {
		case !escaped && b == '\\':
			escaped = true
			continue
		case !escaped && b == '&':
			made.addGroup(0)
		case escaped && isDigit(b):
			number := int(b - '0')
			if number > groups {
				return nil, api.ErrBack
			}
			made.addGroup(number)
		case escaped && b == 'n':
			made.text.WriteByte('\n')
		default:
			made.text.WriteByte(b)
		}
		escaped = false
	}
	if escaped {
		return nil, api.ErrTail
	}
	made.endText()
	return made.parts, api.OK
}

// maker makes parts: bytes that follow one another gather in text, until that is ended.
type maker struct {
	parts []Part
	text  strings.Builder
}

func (m *maker) addGroup(number int) {
	m.endText()
	m.parts = append(m.parts, Part{Group: number})
}

func (m *maker) endText() {
	if m.text.Len() > 0 {
		m.parts = append(m.parts, Part{Group: -1, Text: m.text.String()})
		m.text.Reset()
	}
}

func isDigit(b byte) bool { return '0' <= b && b <= '9' }

// readFlags reads the flags, and what ends the command; behind a w that is its file's name.
func (r *reader) readFlags() api.Errno {
	sub := &r.command.Sub
	for r.at < len(r.text) {
		e := api.OK
		switch b := r.text[r.at]; {
		case b == 'g':
			e = r.readFlag(&sub.All)
		case b == 'p':
			e = r.readFlag(&sub.Print)
		case isDigit(b):
			e = r.readNth()
		case b == 'w':
			r.at++
			return r.readFile(&sub.File)
		default:
			return r.readEnd()
		}
		if e != api.OK {
			return e
		}
	}
	return api.OK
}

// readFlag reads a flag of one byte.
func (r *reader) readFlag(flag *bool) api.Errno {
	if *flag {
		return api.ErrTwice
	}
	*flag = true
	r.at++
	return api.OK
}

// readNth reads the number that is a flag.
func (r *reader) readNth() api.Errno {
	number, place, e := piece.Number(r.text, r.at)
	switch {
	case e != api.OK:
		return e
	case r.command.Sub.Nth != 0:
		return api.ErrTwice
	case number == 0:
		return api.ErrRange
	}
	r.command.Sub.Nth, r.at = number, place
	return api.OK
}
