package flat

import (
	"slices"

	"placket/addr"
	"placket/api"
	"placket/cmd"
	"placket/code"
	"placket/script"
	"placket/tree"
)

// layout lays a script out: it embeds the flat one, as far as it came.
type layout struct {
	*Flat
	script  script.Script
	pairs   []int // the script's
	lacking bool  // a regex had no program
}

// lay lays the next command.
func (l *layout) lay(c cmd.Command) {
	// The list of a replacement's parts is the script's: the op takes one of its own.
	c.Sub.Parts = slices.Clone(c.Sub.Parts)
	op := Op{Command: c, Else: l.behind(len(l.Ops)), To: l.target(c)}
	op.A = l.program(c.Guard.A.Kind == addr.Regex, c.Guard.A.Tree)
	op.B = l.program(c.Guard.B.Kind == addr.Regex, c.Guard.B.Tree)
	op.Sub = l.program(c.Name == 's', c.Sub.Tree)
	op.Range = l.span(c.Guard)
	l.Ops = append(l.Ops, op)
}

// behind is the number behind a command, and behind all that is within it.
func (l *layout) behind(number int) int {
	return max(number, l.pairs[number]) + 1
}

// target is where a jump leads; -1 of other commands.
func (l *layout) target(c cmd.Command) int {
	switch {
	case c.Name != 'b' && c.Name != 't' && c.Name != 'T':
		return -1
	case c.Arg == "":
		return len(l.script.Commands)
	}
	return l.script.Label(c.Arg)
}

// program lays a regex's program, if there is a regex: its number, else -1.
func (l *layout) program(there bool, regex tree.Node) int {
	if !there {
		return -1
	}
	p, e := code.Compile(regex)
	if e != api.OK {
		l.lacking = true
		return -1
	}
	l.Programs = append(l.Programs, p)
	return len(l.Programs) - 1
}

// span is the number of the next range, if a guard has two addresses; else -1.
func (l *layout) span(g addr.Guard) int {
	if g.A.Kind == addr.None || g.B.Kind == addr.None {
		return -1
	}
	l.Ranges++
	return l.Ranges - 1
}
