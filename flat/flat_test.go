package flat

import (
	"fmt"
	"reflect"
	"slices"
	"strings"
	"testing"

	"placket/addr"
	"placket/api"
	"placket/cmd"
	"placket/code"
	"placket/octet"
	"placket/script"
	"placket/tree"
)

// The types and calls are just those of the chapter (R11).
var (
	_ = struct {
		Command                    cmd.Command
		A, B, Sub, Range, Else, To int
	}(Op{})
	_ = struct {
		Quiet    bool
		Ops      []Op
		Programs []code.Program
		Ranges   int
	}(Flat{})

	_ func(s script.Script) (*Flat, api.Errno) = New
	_ func(f *Flat, op int) (int, int)         = (*Flat).Opens
	_ func(f *Flat) []string                   = (*Flat).Writes
)

// both are the two values of an option.
var both = []bool{false, true}

// read is the script of a text that is one.
func read(t *testing.T, s string, extended bool) script.Script {
	t.Helper()
	x, _, place, e := script.Parse(s, extended)
	if e != api.OK {
		t.Fatalf("%.200q is no script: %d at %d", s, e, place)
	}
	return x
}

// laid is the flat script of one that has one.
func laid(t *testing.T, s script.Script) *Flat {
	t.Helper()
	f, e := New(s)
	if e != api.OK || f == nil {
		t.Fatalf("P16.1: New: %s, %d", short(f), e)
	}
	return f
}

// flatOf is the flat script of a text, in a script that isn't extended.
func flatOf(t *testing.T, s string) *Flat {
	t.Helper()
	return laid(t, read(t, s, false))
}

// numbersOf is of each op what field tells, and its name ahead.
func numbersOf(f *Flat, field func(o Op) int) string {
	var all []string
	for _, o := range f.Ops {
		all = append(all, fmt.Sprintf("%c%d", o.Command.Name, field(o)))
	}
	return strings.Join(all, " ")
}

func otherwise(o Op) int { return o.Else }
func target(o Op) int    { return o.To }
func span(o Op) int      { return o.Range }

// wantNumbers holds what field tells of the ops of some texts.
func wantNumbers(t *testing.T, what string, field func(o Op) int, cases map[string]string) {
	t.Helper()
	for s, want := range cases {
		if got := numbersOf(flatOf(t, s), field); got != want {
			t.Errorf("P16.1: %s of %q: %s, want %s", what, s, got, want)
		}
	}
}

// P16.1: the chapter's example.
func TestExample(t *testing.T) {
	f := flatOf(t, "{p}")
	if got := numbersOf(f, otherwise); len(f.Ops) != 3 || got != "{3 p2 }3" {
		t.Errorf("P16.1: New of {p}: %s", got)
	}
}

// P16.1: where an op goes on, if it isn't for a line.
func TestElse(t *testing.T) {
	wantNumbers(t, "Else", otherwise, map[string]string{
		"": "", "p": "p1", "p;d;x": "p1 d2 x3", "{}": "{2 }2", "{};{}": "{2 }2 {4 }4", "{{}}": "{4 {3 }3 }4", "{{};p}": "{5 {3 }3 p4 }5",
		"p\n1{p;/a/,/b/{d\n}\nx}\np": "p1 {8 p3 {6 d5 }6 x7 }8 p9", "1!{p}": "{3 p2 }3", "b\nb x\n:x": "b1 b2 :3", "q;Q;D;d;n;N": "q1 Q2 D3 d4 n5 N6",
		strings.Repeat("{", 12) + strings.Repeat("}", 12): "{24 {23 {22 {21 {20 {19 {18 {17 {16 {15 {14 {13 }13 }14 }15 }16 }17 }18 }19 }20 }21 }22 }23 }24",
	})
}

// P16.1: where a jump leads: to the : of its label, or, without one, to the end; other ops lead nowhere.
func TestTo(t *testing.T) {
	wantNumbers(t, "To", target, map[string]string{
		"": "", "b": "b1", "b;p": "b2 p-1", "t;T;b": "t3 T3 b3", ":x\nb x": ":-1 b0", "b x\n:x": "b1 :-1", "p\n:x\n:y\nt y;T x;b": "p-1 :-1 :-1 t2 T1 b6",
		"{b\n}": "{-1 b3 }-1", "{b x\n}\n:x": "{-1 b3 }-1 :-1", "{:x\np;b x\n}": "{-1 :-1 p-1 b1 }-1", ": a b\nt a b": ":-1 t0", "b x}\n:x\n:x}": "b2 :-1 :-1",
		"=;d;D;g;G;h;H;l;n;N;p;P;q;Q;x;z":             "=-1 d-1 D-1 g-1 G-1 h-1 H-1 l-1 n-1 N-1 p-1 P-1 q-1 Q-1 x-1 z-1",
		":x\na x\ni x\nc x\nr x\nw x\ns/x/x/\ny/x/x/": ":-1 a-1 i-1 c-1 r-1 w-1 s-1 y-1",
		strings.Repeat("b;", 100):                     strings.Repeat("b100 ", 99) + "b100",
	})
}

// P16.1: commands with two addresses have a range, in their order; others have none.
func TestRanges(t *testing.T) {
	for _, c := range []struct {
		text, want string
		ranges     int
	}{
		{"", "", 0}, {"p", "p-1", 0}, {"1p;2,3p;p;$,4!d", "p-1 p0 p-1 d1", 2}, {"1!p;/a/p;$p", "p-1 p-1 p-1", 0}, {"1,+0p;$,$p;1,1p", "p0 p1 p2", 3},
		{"/a/,/b/{1,2p;3p;4,5p\n}\n6,7x", "{0 p1 p-1 p2 }-1 x3", 4}, {"1,2!{p\n}\n3,4s/a/b/;5,6b", "{0 p-1 }-1 s1 b2", 3},
		{strings.Repeat("1,2p;", 3), "p0 p1 p2", 3},
	} {
		f := flatOf(t, c.text)
		if got := numbersOf(f, span); got != c.want || f.Ranges != c.ranges {
			t.Errorf("P16.1: ranges of %q: %s, %d in all, want %s, %d", c.text, got, f.Ranges, c.want, c.ranges)
		}
	}
}

// programOf is the program of a tree that has one.
func programOf(t *testing.T, n tree.Node) code.Program {
	t.Helper()
	p, e := code.Compile(n)
	if e != api.OK {
		t.Fatalf("%v has no program: %d", n, e)
	}
	return p
}

// sign is the tree of a byte.
func sign(b byte) tree.Node { return tree.One{Set: octet.Of(b)} }

// wantPrograms holds the numbers of the ops' programs (of each op A, B and Sub), and that the programs are of these regexes, each of one byte.
func wantPrograms(t *testing.T, s, numbers, regexes string) {
	t.Helper()
	for _, extended := range both {
		f := laid(t, read(t, s, extended))
		got, want := "", []code.Program{}
		for _, o := range f.Ops {
			got += fmt.Sprint(o.A, o.B, o.Sub, " ")
		}
		for i := range len(regexes) {
			want = append(want, programOf(t, sign(regexes[i])))
		}
		if strings.TrimSpace(got) != numbers || !same(f.Programs, want) {
			t.Errorf("P16.1: programs of %q: %s, %d in all, want %s, of %s", s, got, len(f.Programs), numbers, regexes)
		}
	}
}

// same tells whether two lists are the same; one that is empty may be nil.
func same[T any](a, b []T) bool {
	return len(a)+len(b) == 0 || reflect.DeepEqual(a, b)
}

// P16.1: each regex has a program, in the order in which they stand: of a command that of its first address, of its second one, of its s.
func TestPrograms(t *testing.T) {
	wantPrograms(t, "", "", "")
	wantPrograms(t, "p", "-1 -1 -1", "")
	wantPrograms(t, "1p;2,3d;$x;$,+4x", "-1 -1 -1 -1 -1 -1 -1 -1 -1 -1 -1 -1", "")
	wantPrograms(t, "/a/p", "0 -1 -1", "a")
	wantPrograms(t, "/a/,/b/p", "0 1 -1", "ab")
	wantPrograms(t, "1,/b/p", "-1 0 -1", "b")
	wantPrograms(t, "/a/,2p", "0 -1 -1", "a")
	wantPrograms(t, "/a/,+2!p", "0 -1 -1", "a")
	wantPrograms(t, "s/c/d/", "-1 -1 0", "c")
	wantPrograms(t, "/a/,/b/s/c/d/", "0 1 2", "abc")
	wantPrograms(t, "$,/b/!s/c/d/", "-1 0 1", "bc")
	wantPrograms(t, "/b/s/a/d/", "0 -1 1", "ba")
	wantPrograms(t, "s/c/x/;/b/{/a/p;s,d,x,\n}\n/e/,/f/y/g/h/", "-1 -1 0 1 -1 -1 2 -1 -1 -1 -1 3 -1 -1 -1 4 5 -1", "cbadef")
	// One that stands twice has two.
	wantPrograms(t, "/a/,/a/s/a/a/;/a/p", "0 1 2 3 -1 -1", "aaaa")
	wantPrograms(t, "y/a/b/;a x\ni x\nr x\nw x", "-1 -1 -1 -1 -1 -1 -1 -1 -1 -1 -1 -1 -1 -1 -1", "")
}

// P16.1: programs are chapter 7's, of trees of all kinds.
func TestProgramsOfTrees(t *testing.T) {
	for _, regex := range []string{"a", "^a*$", "(a|b)+c{2,5}", "(x*)\\1", "[^a-z]?", "()", "((a)(b|))*"} {
		x := read(t, "1,/"+regex+"/s/"+regex+"/&/", true)
		want := programOf(t, x.Commands[0].Sub.Tree)
		if f := laid(t, x); !reflect.DeepEqual(f.Programs, []code.Program{want, want}) {
			t.Errorf("P16.1: programs of %q: %s, want %s, twice", regex, short(f.Programs), short(want))
		}
	}
}

// P16.1: a flat script is quiet if its script is; its ops have the script's commands, with all that they take.
func TestCommands(t *testing.T) {
	for _, s := range []string{"", "#n", "#n\n", "p", "#n\np", "# n\np", "/a/,+3!s/\\(a\\)b/x\\1&/3gpw f\ny/ab/ba/\na\\\none\\\ntwo\n: x\nb x\nr in\nw out", "1{p;d\n}\n$!{=\n}"} {
		x := read(t, s, false)
		f := laid(t, x)
		var commands []cmd.Command
		for _, o := range f.Ops {
			commands = append(commands, o.Command)
		}
		if f.Quiet != x.Quiet || !same(commands, x.Commands) {
			t.Errorf("P16.1: commands of %q: %t %s, want %t %s", s, f.Quiet, short(commands), x.Quiet, short(x.Commands))
		}
	}
}

// P16.1: in which { an op stands, and in how many; itself not one of them.
func TestOpens(t *testing.T) {
	for s, want := range map[string]string{
		"p": "-1 0", "{}": "-1 0, -1 0", "{p}": "-1 0, 0 1, -1 0", "p;{p;d};p": "-1 0, -1 0, 1 1, 1 1, -1 0, -1 0", "{{p}}": "-1 0, 0 1, 1 2, 0 1, -1 0",
		"{p};{p}": "-1 0, 0 1, -1 0, -1 0, 3 1, -1 0", "{{}p;{p}}": "-1 0, 0 1, 0 1, 0 1, 0 1, 4 2, 0 1, -1 0", "1!{/a/,/b/{p;{d};p};x};p": "-1 0, 0 1, 1 2, 1 2, 3 3, 1 2, 1 2, 0 1, 0 1, -1 0, -1 0",
		strings.Repeat("{", 12) + "p" + strings.Repeat("}", 12): "-1 0, 0 1, 1 2, 2 3, 3 4, 4 5, 5 6, 6 7, 7 8, 8 9, 9 10, 10 11, 11 12, 10 11, 9 10, 8 9, 7 8, 6 7, 5 6, 4 5, 3 4, 2 3, 1 2, 0 1, -1 0",
	} {
		f, got := flatOf(t, s), []string{}
		for i := range f.Ops {
			brace, deep := f.Opens(i)
			got = append(got, fmt.Sprint(brace, deep))
		}
		if strings.Join(got, ", ") != want {
			t.Errorf("P16.1: Opens of %q: %v, want %s", s, got, want)
		}
	}
}

// P16.1: of a number that is no op's there is none, also of the end.
func TestOpensOfNoOp(t *testing.T) {
	for s, ops := range map[string]int{"": 0, "p": 1, "{p}": 3, "{{p}}": 5} {
		f := flatOf(t, s)
		for _, op := range []int{-1 << 63, -100, -2, -1, ops, ops + 1, 100, 1<<63 - 1} {
			if brace, deep := f.Opens(op); brace != -1 || deep != 0 {
				t.Errorf("P16.1: Opens(%d) of %q: %d, %d", op, s, brace, deep)
			}
		}
	}
}

// P16.1: the files that are written, rising byte by byte, each once.
func TestWrites(t *testing.T) {
	long := strings.Repeat("f", api.MaxLabel)
	for s, want := range map[string][]string{
		"": {}, "p": {}, "w f": {"f"}, "s/a/b/w f": {"f"}, "s/a/b/;s/a/b/gp": {}, "w b\nw a": {"a", "b"}, "w f\nw f\ns/a/b/w f": {"f"},
		"w c\ns/x/y/pw b\nw a\ns/x/y/2w c\nw a": {"a", "b", "c"}, "r f\na g\ni h\nc k\n:x\nb x": {}, "r f\nw g": {"g"}, "1,2{w f\n}": {"f"},
		"w b\nw B\nw 10\nw 9\nw \xff\nw a b\nw ab\nw a": {"10", "9", "B", "a", "a b", "ab", "b", "\xff"}, "w " + long + "\nw " + long[1:]: {long[1:], long},
		"d\nw f": {"f"}, "w /dev/stdout": {"/dev/stdout"},
	} {
		if got := flatOf(t, s).Writes(); !same(got, want) {
			t.Errorf("P16.1: Writes of %q: %q, want %q", s, got, want)
		}
	}
}

// P16.1 and R3: ErrLong, and nothing beside it, if a regex has no program, wherever it stands.
func TestTooLong(t *testing.T) {
	most, more := `a\{255\}\{11\}b\{192\}`, `a\{255\}\{11\}b\{193\}`
	for _, shape := range []string{"/~/p", "1,/~/p", "/~/,2p", "/a/,/~/s/a/b/", "s/~/b/", "/~/s/a/b/", "p;s/a/b/;{/~/!d\n}\np", "/~/{\n}", "/~/b", strings.Repeat("p;", 99) + "s/~//"} {
		f := laid(t, read(t, strings.ReplaceAll(shape, "~", most), false))
		longest := slices.MaxFunc(f.Programs, func(a, b code.Program) int { return len(a.Insts) - len(b.Insts) })
		if len(longest.Insts) != api.MaxCode {
			t.Errorf("P16.1: New of %q: a program of %d", shape, len(longest.Insts))
		}
		if f, e := New(read(t, strings.ReplaceAll(shape, "~", more), false)); f != nil || e != api.ErrLong {
			t.Errorf("P16.1: New of %q, of a regex that is too long: %s, %d", shape, short(f), e)
		}
	}
	if f, e := New(read(t, "/a/p;s/"+more+"/x/;p", false)); f != nil || e != api.ErrLong {
		t.Errorf("P16.1: New of one of two regexes that is too long: %s, %d", short(f), e)
	}
}

// P16.1: the greatest scripts: MaxCommands commands, each with two addresses, or all in one another as far as may be.
func TestGreatest(t *testing.T) {
	f := flatOf(t, strings.Repeat("/a/,/b/s/c/d/w f\n", 100))
	last := f.Ops[99]
	if len(f.Ops) != 100 || f.Ranges != 100 || len(f.Programs) != 300 || last.A != 297 || last.B != 298 || last.Sub != 299 || last.Range != 99 || last.Else != 100 {
		t.Errorf("P16.1: New of the most commands: %d, %d ranges, %d programs, the last %d %d %d %d %d", len(f.Ops), f.Ranges, len(f.Programs), last.A, last.B, last.Sub, last.Range, last.Else)
	}
	if got := f.Writes(); !same(got, []string{"f"}) {
		t.Errorf("P16.1: Writes of the most commands: %q", got)
	}
	f = flatOf(t, "b\n{"+strings.Repeat("p;", 97)+"}")
	if o := f.Ops[1]; o.Else != 100 || f.Ops[0].To != 100 || f.Ops[99].Else != 100 {
		t.Errorf("P16.1: New of the greatest braces: %d, %d, %d", o.Else, f.Ops[0].To, f.Ops[99].Else)
	}
}

// P16.1: of a script of which commands are left out that are neither braces nor labels, and of one with a g in the place of an x.
func TestScriptsThatAreChanged(t *testing.T) {
	const text = "#n\n1,2h;/a/,/b/{:x\nx;s/c/d/w f\nb x\n}\nt;$!x"
	x := read(t, text, false)
	for i, c := range x.Commands {
		if strings.IndexByte("{}:", c.Name) >= 0 {
			continue
		}
		wantLike(t, script.Script{Quiet: true, Commands: slices.Delete(slices.Clone(x.Commands), i, i+1)})
		if c.Name == 'x' {
			changed := slices.Clone(x.Commands)
			changed[i].Name = 'g'
			wantLike(t, script.Script{Quiet: true, Commands: changed})
		}
	}
	braces := slices.DeleteFunc(slices.Clone(x.Commands), func(c cmd.Command) bool { return strings.IndexByte("{}:", c.Name) < 0 })
	wantLike(t, script.Script{Quiet: true, Commands: braces})
}

// P16.1: all braces and labels, and nothing else.
func TestBracesAlone(t *testing.T) {
	f := flatOf(t, "{:a\n{};:b\n}")
	if got := numbersOf(f, otherwise); got != "{6 :2 {4 }4 :5 }6" || len(f.Programs) != 0 || f.Ranges != 0 {
		t.Errorf("P16.1: New of braces and labels: %s", got)
	}
}

// P16.1 and R3: what an op hasn't is -1, what it takes no part in is empty.
func TestOpWithNothing(t *testing.T) {
	want := Flat{Ops: []Op{{cmd.Command{Name: 'p'}, -1, -1, -1, -1, 1, -1}}}
	got := *flatOf(t, "p")
	if len(got.Programs) == 0 {
		got.Programs = nil
	}
	if !reflect.DeepEqual(got, want) {
		t.Errorf("P16.1: New of p: %s", short(got))
	}
	if f := flatOf(t, ""); f.Quiet || f.Ranges != 0 || len(f.Ops)+len(f.Programs)+len(f.Writes()) != 0 {
		t.Errorf("P16.1: New of nothing: %s", short(f))
	}
	if f := laid(t, script.Script{Quiet: true}); !f.Quiet || len(f.Ops) != 0 {
		t.Errorf("P16.1: New of a quiet script without commands: %s", short(f))
	}
}

// R6: New neither changes nor keeps a script's lists.
func TestNewKeepsNothing(t *testing.T) {
	const text = "/a/,/b/s/c/x&y/w f\n{p\n}\ns/d/e\\0/w g"
	x := read(t, text, false)
	commands := append(make([]cmd.Command, 0, 40), x.Commands...)
	f := laid(t, script.Script{Commands: commands})
	if !reflect.DeepEqual(commands, read(t, text, false).Commands) || commands[:6][5].Name != 0 {
		t.Error("R6: New changed the commands")
	}
	for i := range commands {
		for j := range commands[i].Sub.Parts {
			commands[i].Sub.Parts[j] = cmd.Part{Group: 9, Text: "?"}
		}
		commands[i] = cmd.Command{Name: 'd'}
	}
	if !reflect.DeepEqual(f, flatOf(t, text)) {
		t.Error("R6: the flat script changes with the script's lists")
	}
}

// R6: no two answers share a list.
func TestAnswersAreNew(t *testing.T) {
	x := read(t, "/a/,/b/s/c/x&y/w f\n{w g\n}", false)
	f, want := laid(t, x), laid(t, x)
	for i := range f.Programs {
		clear(f.Programs[i].Insts)
	}
	for i := range f.Ops {
		clear(f.Ops[i].Command.Sub.Parts)
	}
	clear(f.Ops)
	clear(f.Programs)
	if !reflect.DeepEqual(want, laid(t, x)) {
		t.Error("R6: a flat script changes with another one")
	}
	names := want.Writes()
	clear(names)
	if got := want.Writes(); !slices.Equal(got, []string{"f", "g"}) {
		t.Errorf("R6: Writes changes with another answer: %q", got)
	}
}

// R8: Opens and Writes change nothing.
func TestAskedTwice(t *testing.T) {
	const text = "w g\n{/a/{s/a/b/w f\n}\n}\nw e"
	f := flatOf(t, text)
	for range 2 {
		for op := -1; op < 9; op++ {
			f.Opens(op)
		}
		if got := f.Writes(); !slices.Equal(got, []string{"e", "f", "g"}) {
			t.Errorf("R8: Writes: %q", got)
		}
	}
	if !reflect.DeepEqual(f, flatOf(t, text)) {
		t.Error("R8: a flat script that was asked isn't as it was")
	}
}

// R9: neither of a tree that isn't right, nor of scripts and flat ones of any fields, of which nothing is promised, does anything panic.
func TestAnyFields(t *testing.T) {
	for _, n := range []tree.Node{tree.Back{Number: 3}, tree.Rep{Min: 3, Max: 2, Of: sign('a')}, tree.Cat{}} {
		a := cmd.Command{Name: 'p', Guard: addr.Guard{A: addr.Address{Kind: addr.Regex, Tree: n}}}
		if f, e := New(script.Script{Commands: []cmd.Command{a}}); f != nil || e != api.ErrLong {
			t.Errorf("P16.1: New of %v: %s, %d", n, short(f), e)
		}
	}
	lists := []string{""}
	for range 5 {
		var longer []string
		for _, names := range lists {
			var s script.Script
			f := &Flat{}
			for i := range len(names) {
				c := cmd.Command{Name: names[i], Arg: strings.Repeat("x", i%2)}
				s.Commands, f.Ops = append(s.Commands, c), append(f.Ops, Op{Command: c})
			}
			for _, f := range []*Flat{f, laid(t, s)} {
				for op := -1; op <= len(names); op++ {
					f.Opens(op)
				}
				f.Writes()
			}
			longer = append(longer, names+"{", names+"}", names+"b", names+"s", names+"w", names+"\x00")
		}
		lists = longer
	}
}
