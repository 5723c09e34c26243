package print

import (
	"strconv"
	"strings"

	"placket/addr"
	"placket/cmd"
)

// text is a text that grows.
type text struct{ strings.Builder }

// command writes a command, and the end of its line.
func (t *text) command(c cmd.Command) {
	t.guard(c.Guard)
	t.WriteByte(c.Name)
	t.taken(c)
	t.WriteByte('\n')
}

// guard writes a guard.
func (t *text) guard(g addr.Guard) {
	a, b := Address(g.A), Address(g.B)
	t.WriteString(a)
	if a != "" && b != "" {
		t.WriteByte(',')
	}
	t.WriteString(b)
	if g.Not {
		t.WriteByte('!')
	}
}

// taken writes what a command takes.
func (t *text) taken(c cmd.Command) {
	switch c.Name {
	case ':', 'b', 't', 'T':
		if c.Arg != "" {
			t.WriteString(" " + c.Arg)
		}
	case 'r', 'w':
		t.WriteString(" " + c.Arg)
	case 'a', 'i', 'c':
		t.lines(c.Arg)
	case 's':
		t.sub(c.Sub)
	case 'y':
		t.table(c.Table)
	}
}

// lines writes the text of an a, an i, or a c, but for the end of its last line: that ends the command.
func (t *text) lines(s string) {
	t.WriteString("\\\n")
	s = strings.TrimSuffix(s, "\n")
	for i := range len(s) {
		if s[i] == '\\' || s[i] == '\n' {
			t.WriteByte('\\')
		}
		t.WriteByte(s[i])
	}
}

// sub writes what an s takes.
func (t *text) sub(s cmd.Sub) {
	t.WriteString(slashed(s.Tree))
	for _, part := range s.Parts {
		t.part(part)
	}
	t.WriteByte('/')
	t.flags(s)
}

// part writes a part of a replacement.
func (t *text) part(p cmd.Part) {
	switch p.Group {
	case -1:
		for i := range len(p.Text) {
			t.plain(p.Text[i], `\/&`)
		}
	case 0:
		t.WriteByte('&')
	default:
		t.WriteString(`\` + strconv.Itoa(p.Group))
	}
}

// plain writes a byte that is to stand for itself between delimiters, where some others mean something.
func (t *text) plain(b byte, others string) {
	switch {
	case b == '\n':
		t.WriteString(`\n`)
		return
	case strings.IndexByte(others, b) >= 0:
		t.WriteByte('\\')
	}
	t.WriteByte(b)
}

// flags writes the flags of an s.
func (t *text) flags(s cmd.Sub) {
	if s.Nth != 0 {
		t.WriteString(strconv.Itoa(s.Nth))
	}
	if s.All {
		t.WriteByte('g')
	}
	if s.Print {
		t.WriteByte('p')
	}
	// It goes on to the end of the line, so it is the last one.
	if s.File != "" {
		t.WriteString("w " + s.File)
	}
}

// table writes both lists of a y; of a table that isn't whole they are empty.
func (t *text) table(table string) {
	var from, to text
	if len(table) == 256 {
		for i := range len(table) {
			if b := byte(i); table[i] != b {
				from.plain(b, `\/`)
				to.plain(table[i], `\/`)
			}
		}
	}
	t.WriteString("/" + from.String() + "/" + to.String() + "/")
}
