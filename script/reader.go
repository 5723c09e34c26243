package script

import (
	"strings"

	"placket/api"
	"placket/cmd"
	"placket/piece"
)

// reader reads a script, which it embeds as far as it came; at is the place to which it came.
type reader struct {
	Script
	text     string
	extended bool
	at       int
	marks    []api.Mark
	open     []int          // the places of the { that aren't ended
	labels   map[string]int // how many : have a label
}

// readScript reads all of the text. Of an error it tells the place.
func (r *reader) readScript() (int, api.Errno) {
	r.Quiet = r.line() == "#n"
	for r.skip(); r.at < len(r.text); r.skip() {
		if place, e := r.readCommand(); e != api.OK {
			return place, e
		}
	}
	return r.readEnd()
}

// line is what stands from the reader's place on up to the end of the line.
func (r *reader) line() string {
	line, _, _ := strings.Cut(r.text[r.at:], "\n")
	return line
}

// skip goes on behind space and remarks.
func (r *reader) skip() {
	r.at = piece.Space(r.text, r.at)
	for strings.HasPrefix(r.text[r.at:], "#") {
		r.at = piece.Space(r.text, r.at+len(r.line()))
	}
}

// readCommand reads the command that begins at the reader's place. Of an error it tells the place.
func (r *reader) readCommand() (int, api.Errno) {
	if len(r.Commands) == api.MaxCommands {
		return r.at, api.ErrLong
	}
	c, marks, place, e := cmd.Parse(r.text, r.at, r.extended)
	if e != api.OK {
		return place, e
	}
	if e := r.fit(c); e != api.OK {
		return c.At, e
	}
	r.Commands, r.marks, r.at = append(r.Commands, c), append(r.marks, marks...), place
	return 0, api.OK
}

// fit holds a brace, or a label, against those ahead of it.
func (r *reader) fit(c cmd.Command) api.Errno {
	switch c.Name {
	case '{':
		if len(r.open) == api.MaxBrace {
			return api.ErrDeep
		}
		r.open = append(r.open, c.At)
	case '}':
		if len(r.open) == 0 {
			return api.ErrBrace
		}
		r.open = r.open[:len(r.open)-1]
	case ':':
		if r.labels[c.Arg] > 0 {
			return api.ErrTwice
		}
		r.labels[c.Arg]++
	}
	return api.OK
}

// readEnd tells what can be wrong of a script only behind all of its commands. Of an error it tells the place.
func (r *reader) readEnd() (int, api.Errno) {
	if len(r.open) > 0 {
		return r.open[len(r.open)-1], api.ErrBrace
	}
	for _, c := range r.Commands {
		if jumps(c) && c.Arg != "" && r.labels[c.Arg] == 0 {
			return c.At, api.ErrLabel
		}
	}
	return 0, api.OK
}

// jumps tells whether a command's Arg is a label to which it goes.
func jumps(c cmd.Command) bool { return c.Name == 'b' || c.Name == 't' || c.Name == 'T' }
