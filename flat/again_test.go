package flat

import (
	"fmt"
	"reflect"
	"slices"
	"strings"
	"testing"

	"placket/addr"
	"placket/api"
	"placket/cmd"
	"placket/code"
	"placket/script"
	"placket/tree"
)

// namesOf is the names of some commands.
func namesOf(commands []cmd.Command) string {
	names := ""
	for _, c := range commands {
		names += string([]byte{c.Name})
	}
	return names
}

// closeAgain is the number of the } of a { : the first behind which as many } stand as { , from the { on.
func closeAgain(names string, open int) int {
	for j := open + 1; ; j++ {
		if within := names[open : j+1]; strings.Count(within, "{") == strings.Count(within, "}") {
			return j
		}
	}
}

// regexesAgain is the trees of a command's regexes; of each whether there is one.
func regexesAgain(c cmd.Command) ([]tree.Node, [3]bool) {
	there := [3]bool{c.Guard.A.Kind == addr.Regex, c.Guard.B.Kind == addr.Regex, c.Name == 's'}
	var all []tree.Node
	for i, n := range []tree.Node{c.Guard.A.Tree, c.Guard.B.Tree, c.Sub.Tree} {
		if there[i] {
			all = append(all, n)
		}
	}
	return all, there
}

// opAgain is a second reading of what the chapter says of an op: each number by what stands in the script ahead of it.
func opAgain(s script.Script, number int) Op {
	c, names := s.Commands[number], namesOf(s.Commands)
	o := Op{Command: c, A: -1, B: -1, Sub: -1, Range: -1, Else: number + 1, To: -1}
	programs, ranges := 0, 0
	for _, ahead := range s.Commands[:number] {
		regexes, _ := regexesAgain(ahead)
		programs += len(regexes)
		if ahead.Guard.B.Kind != addr.None {
			ranges++
		}
	}
	_, there := regexesAgain(c)
	for i, place := range []*int{&o.A, &o.B, &o.Sub} {
		if there[i] {
			*place = programs
			programs++
		}
	}
	if c.Guard.B.Kind != addr.None {
		o.Range = ranges
	}
	if c.Name == '{' {
		o.Else = closeAgain(names, number) + 1
	}
	if strings.IndexByte("btT", c.Name) >= 0 {
		o.To = len(names)
		for i, other := range s.Commands {
			if other.Name == ':' && other.Arg == c.Arg {
				o.To = i
			}
		}
	}
	return o
}

// flatAgain is the same of a flat script; nil, if a regex has no program.
func flatAgain(s script.Script) *Flat {
	f := &Flat{Quiet: s.Quiet}
	for i, c := range s.Commands {
		f.Ops = append(f.Ops, opAgain(s, i))
		regexes, _ := regexesAgain(c)
		for _, n := range regexes {
			p, e := code.Compile(n)
			if e != api.OK {
				return nil
			}
			f.Programs = append(f.Programs, p)
		}
		if f.Ops[i].Range >= 0 {
			f.Ranges = f.Ops[i].Range + 1
		}
	}
	return f
}

// opensAgain is the same of Opens: the pairs that an op stands between.
func opensAgain(f *Flat, op int) (int, int) {
	names, last, deep := "", -1, 0
	for _, o := range f.Ops {
		names += string([]byte{o.Command.Name})
	}
	for i := 0; op >= 0 && op < len(names) && i < op; i++ {
		if names[i] == '{' && op < closeAgain(names, i) {
			last, deep = i, deep+1
		}
	}
	return last, deep
}

// writesAgain is the same of Writes.
func writesAgain(f *Flat) []string {
	names := map[string]int{}
	for _, o := range f.Ops {
		name := o.Command.Sub.File
		if o.Command.Name == 'w' {
			name = o.Command.Arg
		}
		if name != "" {
			names[name]++
		}
	}
	var all []string
	for name := range names {
		all = append(all, name)
	}
	slices.Sort(all)
	return all
}

// short is the beginning of what stands for a value.
func short(value any) string { return fmt.Sprintf("%.300q", fmt.Sprintf("%+v", value)) }

// wantLike holds all that is answered of a script against the second reading.
func wantLike(t *testing.T, s script.Script) {
	t.Helper()
	got, e := New(s)
	want := flatAgain(s)
	if want == nil {
		if got != nil || e != api.ErrLong {
			t.Fatalf("P16.1: New of %s: %s, %d", short(s), short(got), e)
		}
		return
	}
	if got == nil || e != api.OK || got.Quiet != want.Quiet || got.Ranges != want.Ranges || !same(got.Ops, want.Ops) || !same(got.Programs, want.Programs) {
		t.Fatalf("P16.1: New of %s: %s, %d, want %s", short(s), short(got), e, short(want))
	}
	for op := -1; op <= len(got.Ops); op++ {
		brace, deep := got.Opens(op)
		if brace2, deep2 := opensAgain(want, op); brace != brace2 || deep != deep2 {
			t.Fatalf("P16.1: Opens(%d) of %s: %d, %d, want %d, %d", op, short(s), brace, deep, brace2, deep2)
		}
	}
	if names := got.Writes(); !same(names, writesAgain(want)) {
		t.Fatalf("P16.1: Writes of %s: %q, want %q", short(s), names, writesAgain(want))
	}
	if again, e := New(s); e != api.OK || !reflect.DeepEqual(again, got) {
		t.Fatalf("R8: New of %s, twice: %s, %d", short(s), short(again), e)
	}
}

// wantTails holds it of a head with all tails of so many parts at most, as far as they are scripts.
func wantTails(t *testing.T, head string, parts []string, most int) {
	t.Helper()
	if x, _, _, e := script.Parse(head, false); e == api.OK {
		wantLike(t, x)
	}
	for i := 0; most > 0 && i < len(parts); i++ {
		wantTails(t, head+parts[i], parts, most-1)
	}
}

// P16.1 and P7: of all short lists of the parts that matter New, Opens and Writes answer as a second reading does.
func TestAllShortScripts(t *testing.T) {
	wantTails(t, "", []string{"{", "}\n", "p;"}, 9)
	wantTails(t, "", []string{"{", "}\n", "1,2p;", "/a/{", "s/b/c/w f\n", "w g\n"}, 5)
	wantTails(t, "", []string{":x\n", ":y\n", "b x\n", "t y\n", "T\n", "{", "}\n"}, 5)
	wantTails(t, "#n\n", []string{"/a/p;", "/b/,/c/!d;", "1,/d/s/e/f/\n", "/g/,2s/h/i/w j\n", "$=\n", "1,+2l\n"}, 4)
}

// numbersFrom makes numbers below others, the same ones each time.
func numbersFrom(x uint32) func(below int) int {
	return func(below int) int {
		x ^= x << 13
		x ^= x >> 17
		x ^= x << 5
		return int(x % uint32(below))
	}
}

// randomScript puts commands together, in braces that are even, with all labels that they jump to.
func randomScript(next func(below int) int) string {
	parts := []string{"p;", "1d;", "$!x;", "1,3p;", "/a/,/b\\|c/!h;", "2,/x*/G;", "/q/,$d;", "/w/,+2N;", "s/a\\(b\\)/\\1&/g\n", "/r/s/t/u/w out\n", "1,/v/s/^$/-/2pw in\n", "w one\n", "w two\n", "r three\n", "a\\\nx\n", "y/ab/ba/;", "b x\n", "t y\n", "T\n", "b;", "t x\n", "3q;", "n;N;", "=;"}
	text, deep := "", 0
	for range next(20) {
		switch next(6) {
		case 0:
			text, deep = text+[]string{"{", "/a/{", "1,2!{", "/k/,/l/{"}[next(4)], deep+1
		case 1:
			if deep > 0 {
				text, deep = text+"}\n", deep-1
			}
		default:
			text += parts[next(len(parts))]
		}
	}
	return ":x\n" + text + strings.Repeat("}", deep) + "\n:y\n"
}

// P16.1 and P7: the same of longer scripts that are put together of parts, also with commands left out, and with a g in the place of an x.
func TestScriptsOfParts(t *testing.T) {
	next := numbersFrom(2463534242)
	for range 20000 {
		x, _, _, e := script.Parse(randomScript(next), false)
		if e != api.OK {
			continue
		}
		wantLike(t, x)
		if i := next(len(x.Commands)); strings.IndexByte("{}:", x.Commands[i].Name) < 0 {
			wantLike(t, script.Script{Quiet: x.Quiet, Commands: slices.Delete(slices.Clone(x.Commands), i, i+1)})
			for j, c := range x.Commands {
				if c.Name == 'x' {
					x.Commands[j].Name = 'g'
				}
			}
			wantLike(t, x)
		}
	}
}

// P16.1: regexes near the limit of a program, in all places.
func TestProgramsNearTheLimit(t *testing.T) {
	regexes := []string{"a", `a\{255\}\{11\}`, `a\{255\}\{12\}`, `a\{255\}\{11\}b\{192\}`, `a\{255\}\{11\}b\{193\}`, "\\(a*\\)*"}
	for _, a := range regexes {
		for _, b := range regexes {
			for _, c := range regexes {
				wantLike(t, read(t, "p\n/"+a+"/,/"+b+"/s/"+c+"/&/\np", false))
			}
		}
	}
}
