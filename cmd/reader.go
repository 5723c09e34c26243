package cmd

import (
	"strings"

	"placket/addr"
	"placket/api"
	"placket/piece"
)

// reader reads a command behind its guard: at is how far it came, or, once it met an error, that error's place.
type reader struct {
	text     string
	extended bool
	at       int
	command  Command
	marks    []api.Mark
}

// readCommand reads the name, what it takes, and what ends the command.
func (r *reader) readCommand() api.Errno {
	if e := r.readName(); e != api.OK {
		return e
	}
	switch r.command.Name {
	case '{', '}':
		return api.OK
	case ':':
		return r.readLabel()
	case 'b', 't', 'T':
		return r.readPerhapsLabel()
	case 'a', 'i', 'c':
		return r.readText()
	case 'r', 'w':
		return r.readFile(&r.command.Arg)
	case 's':
		return r.readSub()
	case 'y':
		return r.readTable()
	}
	return r.readEnd()
}

// readName reads the name, and holds what it may have against the guard.
func (r *reader) readName() api.Errno {
	if r.at == len(r.text) {
		return api.ErrEnd
	}
	name := r.text[r.at]
	most, ok := mostAddresses(name)
	if !ok {
		return api.ErrName
	}
	if addresses(r.command.Guard) > most {
		return api.ErrExtra
	}
	switch name {
	case 'Q', 'T', 'z':
		r.mark(r.text[r.at : r.at+1])
	}
	r.command.Name = name
	r.at++
	return api.OK
}

// mostAddresses is how many addresses a command of a name may have; false, if there is none of that name.
func mostAddresses(name byte) (int, bool) {
	switch name {
	case '}', ':':
		return 0, true
	case '=', 'q', 'Q', 'a', 'i', 'r':
		return 1, true
	case '{', 'd', 'D', 'g', 'G', 'h', 'H', 'l', 'n', 'N', 'p', 'P', 'x', 'z', 'b', 't', 'T', 'c', 'w', 's', 'y':
		return 2, true
	}
	return 0, false
}

// addresses is how many addresses a guard has.
func addresses(g addr.Guard) int {
	switch {
	case g.A.Kind == addr.None:
		return 0
	case g.B.Kind == addr.None:
		return 1
	}
	return 2
}

// mark tells of an extension at the place that the reader came to.
func (r *reader) mark(word string) {
	r.marks = append(r.marks, api.Mark{At: r.at, Word: word})
}

// readLabel reads a label.
func (r *reader) readLabel() api.Errno {
	label, place, e := piece.Name(r.text, r.at, true)
	r.command.Arg, r.at = label, place
	return e
}

// readPerhapsLabel reads a label, if there is one.
func (r *reader) readPerhapsLabel() api.Errno {
	begin := r.at
	e := r.readLabel()
	if e == api.ErrLabel {
		// An empty label is blanks and nothing else, so it ends behind them.
		r.at = piece.Blanks(r.text, begin)
		return api.OK
	}
	return e
}

// readText reads the text of an a, an i, or a c.
func (r *reader) readText() api.Errno {
	r.at = piece.Blanks(r.text, r.at)
	rest := r.text[r.at:]
	switch {
	case rest == "":
		return api.ErrTail
	case rest[0] == '\n':
		return api.ErrEnd
	case strings.HasPrefix(rest, "\\\n"):
		r.at += 2
	default:
		r.marks = append(r.marks, api.Mark{At: r.command.At, Word: "text"})
	}
	text, place, e := piece.Lines(r.text, r.at)
	r.command.Arg, r.at = text, place
	return e
}

// readFile reads a blank at least, and a file's name.
func (r *reader) readFile(name *string) api.Errno {
	if piece.Blanks(r.text, r.at) == r.at {
		return api.ErrForm
	}
	file, place, e := piece.Name(r.text, r.at, false)
	*name, r.at = file, place
	return e
}

// readDelimiter reads the byte behind the name of an s, or a y.
func (r *reader) readDelimiter() (byte, api.Errno) {
	if r.at == len(r.text) {
		return 0, api.ErrEnd
	}
	delimiter := r.text[r.at]
	if delimiter == '\\' || delimiter == '\n' {
		return 0, api.ErrForm
	}
	r.at++
	return delimiter, api.OK
}

// readEnd reads blanks up to what ends a command that may not end elsewhere; what ends it is left standing.
func (r *reader) readEnd() api.Errno {
	r.at = piece.Blanks(r.text, r.at)
	if r.at == len(r.text) {
		return api.OK
	}
	switch r.text[r.at] {
	case ';', '\n', '#':
		return api.OK
	case '}':
		r.mark("}")
		return api.OK
	}
	return api.ErrFlag
}
