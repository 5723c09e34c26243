package cmd

import (
	"fmt"
	"reflect"
	"strings"
	"testing"

	"placket/addr"
	"placket/api"
	"placket/tree"
)

// The types and calls are just those of the chapter (R11).
var (
	_ = struct {
		Group int
		Text  string
	}(Part{})
	_ = struct {
		Text       string
		Tree       tree.Node
		Parts      []Part
		Nth        int
		All, Print bool
		File       string
	}(Sub{})
	_ = struct {
		At    int
		Guard addr.Guard
		Name  byte
		Arg   string
		Sub   Sub
		Table string
	}(Command{})

	_ func(s string, at int, extended bool) (Command, []api.Mark, int, api.Errno) = Parse
	_ func(a, b Command) bool                                                     = Same
)

// both are the two values of an option.
var both = []bool{false, true}

// fronts are bytes that stand ahead of what is read, and don't matter.
var fronts = []string{"", "x", "1", "!", " ", "\n", "\\", "s/", "y/a/", "{", "}", ";", "#", "/[a\n", "\xff\x00"}

// answer is what Parse answers.
type answer struct {
	command Command
	marks   []api.Mark
	place   int
	e       api.Errno
}

func parsed(c Command, marks []api.Mark, place int, e api.Errno) answer {
	return answer{c, marks, place, e}
}

// right is a command, the place at which it ends, and its marks.
func right(c Command, place int, marks ...api.Mark) answer { return answer{c, marks, place, api.OK} }

// wrong is an error and its place.
func wrong(place int, e api.Errno) answer { return answer{Command{}, nil, place, e} }

func (a answer) String() string {
	if a.e != api.OK && reflect.DeepEqual(a.command, Command{}) {
		return fmt.Sprintf("error %d at %d, marks %v", a.e, a.place, a.marks)
	}
	return fmt.Sprintf("%.400s, marks %v, place %d, error %d", fmt.Sprintf("%+v", a.command), a.marks, a.place, a.e)
}

// farther is an answer about the same bytes, so many places farther on.
func (a answer) farther(by int) answer {
	a.place += by
	a.marks = append([]api.Mark(nil), a.marks...)
	for i := range a.marks {
		a.marks[i].At += by
	}
	if a.e == api.OK {
		a.command.At += by
	}
	return a
}

// is tells whether two answers are the same in all fields; a list that is empty may be nil.
func (a answer) is(b answer) bool {
	if len(a.marks)+len(b.marks) == 0 {
		a.marks, b.marks = nil, nil
	}
	if len(a.command.Sub.Parts)+len(b.command.Sub.Parts) == 0 {
		a.command.Sub.Parts, b.command.Sub.Parts = nil, nil
	}
	return reflect.DeepEqual(a, b)
}

// wantParse holds an answer at each of the fronts.
func wantParse(t *testing.T, s string, extended bool, want answer) {
	t.Helper()
	for _, front := range fronts {
		got, far := parsed(Parse(front+s, len(front), extended)), want.farther(len(front))
		if !got.is(far) {
			t.Errorf("P13.1: Parse(%.100q, %d, %t): %v, want %v", front+s, len(front), extended, got, far)
			return
		}
	}
}

// wantEach holds an answer in scripts of both kinds.
func wantEach(t *testing.T, s string, want answer) {
	t.Helper()
	for _, extended := range both {
		wantParse(t, s, extended, want)
	}
}

// wantBefore holds that such an answer stays as it is, whatever of these stands behind the text's end.
func wantBefore(t *testing.T, s string, backs []string, want answer) {
	t.Helper()
	wantEach(t, s, want)
	for _, back := range backs {
		wantEach(t, s+back, want)
	}
}

// mark is an extension at a place.
func mark(at int, word string) api.Mark { return api.Mark{At: at, Word: word} }

// named is a command without an argument, arged one with it; without an address.
func named(at int, name byte) Command             { return Command{At: at, Name: name} }
func arged(at int, name byte, arg string) Command { return Command{At: at, Name: name, Arg: arg} }

// guarded is a command for some lines.
func guarded(g addr.Guard, c Command) Command {
	c.Guard = g
	return c
}

// guardOf is the guard of a text that is one.
func guardOf(s string) addr.Guard {
	g, _, place, e := addr.ParseGuard(s, 0, false)
	if e != api.OK || place != len(s) {
		panic("no guard: " + s)
	}
	return g
}

// names is all names that there are, ordered by how many addresses they have at most; alone those that take nothing, and end as most commands do.
var names = [3]string{"}:", "=qQair", "{bcdDgGhHlnNpPtTwxzsy"}

const alone = "=dDgGhHlnNpPxzqQ"

// taken is what commands take that take anything.
func taken(name byte) string {
	switch name {
	case 'a', 'i', 'c', ':', 'b', 't', 'T', 'r', 'w':
		return " x"
	case 's', 'y':
		return "/a/b/"
	}
	return ""
}

// P13.1: a place that isn't one of the text is told ahead of all else.
func TestPlaceOutsideTheText(t *testing.T) {
	for _, s := range []string{"", "p", "0p", "k", "s", "a", "1}", "p p", strings.Repeat("p", 100)} {
		for _, at := range []int{-1, -2, len(s) + 1, len(s) + 2, 1 << 40, -1 << 63, 1<<63 - 1} {
			for _, extended := range both {
				if got := parsed(Parse(s, at, extended)); !got.is(wrong(0, api.ErrRange)) {
					t.Errorf("P13.1: Parse(%q, %d, %t): %v", s, at, extended, got)
				}
			}
		}
	}
}

// P13.1: the names that there are, and no others; Q, T and z are extensions.
func TestNames(t *testing.T) {
	for i := range 256 {
		name := byte(i)
		s := string([]byte{name}) + taken(name)
		got := parsed(Parse(s, 0, false))
		isName := strings.IndexByte(names[0]+names[1]+names[2], name) >= 0
		switch {
		case isName && (got.e != api.OK || got.command.Name != name || got.place != len(s)):
			t.Errorf("P13.1: Parse(%q): %v", s, got)
		case isName:
			var marks []api.Mark
			if strings.IndexByte("QTz", name) >= 0 {
				marks = []api.Mark{mark(0, s[:1])}
			} else if strings.IndexByte("aic", name) >= 0 {
				marks = []api.Mark{mark(0, "text")}
			}
			if !got.is(right(got.command, got.place, marks...)) {
				t.Errorf("P13.1: Parse(%q): %v, want the marks %v", s, got, marks)
			}
		case strings.IndexByte(" \t!$/\\0123456789", name) < 0:
			wantBefore(t, s, []string{"p", " p", "\n", ";", "}", "/a/b/"}, wrong(0, api.ErrName))
		}
	}
}

// P13.1: what stands in the place of a name, and is none, is told behind the guard.
func TestNoNames(t *testing.T) {
	for s, place := range map[string]int{"\n": 0, ";p": 0, "#": 0, " #n": 1, "\t\n": 1, "1\np": 1, "1 ;p": 2, "1,2!\n": 4, "$! k": 3, "1 2p": 2, "1!2p": 2, ",2p": 0, "+1p": 0, "1,2,3p": 3, "/a/I p": 3, "~": 0, "\xc3\xa9": 0, "\x00": 0, "1 -p": 2, "A": 0, "1B": 1, "(p": 0, "&": 0, "\r": 0} {
		wantEach(t, s, wrong(place, api.ErrName))
	}
	for _, s := range []string{"", " ", " \t ", "1", "1 ", "1,2", "1 , 2 ", "$!", "!", " ! ", "/a/", "\\,a, !\t"} {
		wantEach(t, s, wrong(len(s), api.ErrEnd))
	}
	if got := parsed(Parse("pp", 2, false)); !got.is(wrong(2, api.ErrEnd)) {
		t.Errorf("P13.1: Parse(pp, 2): %v", got)
	}
}

// P13.1: how many addresses a command may have; one that has more is told at its name, ahead of what is wrong behind that.
func TestAddresses(t *testing.T) {
	guards := []string{"", "1", "1,2", "!", "$!", "/a/, $ ! ", " ! ", "\\,a,,3"}
	counts := []int{0, 1, 2, 0, 1, 2, 0, 2}
	for most, list := range names {
		for i := range len(list) {
			name := list[i]
			for j, guard := range guards {
				s := guard + list[i:i+1] + taken(name)
				got := parsed(Parse(s, 0, false))
				if counts[j] <= most {
					if got.e != api.OK || got.command.At != len(guard) || got.command.Name != name || !addr.SameGuard(got.command.Guard, guardOf(guard)) {
						t.Errorf("P13.1: Parse(%q): %v", s, got)
					}
					continue
				}
				wantBefore(t, guard+list[i:i+1], []string{"", taken(name), "\\", "\n", " p", "//"}, wrong(len(guard), api.ErrExtra))
			}
		}
	}
}

// P13.1: the guard's errors come ahead of the command's, its marks ahead of the command's.
func TestGuardsOfCommands(t *testing.T) {
	for s, want := range map[string]answer{
		"0k": wrong(0, api.ErrAddr), "1,k": wrong(2, api.ErrAddr), "1!!k": wrong(2, api.ErrTwice), "//k": wrong(1, api.ErrForm), "/a": wrong(2, api.ErrEnd), "1234567890": wrong(0, api.ErrLong), "1,0}": wrong(2, api.ErrAddr), "\\": wrong(0, api.ErrAddr), "/[z-a]/}": wrong(1, api.ErrRange), "1,+q": wrong(3, api.ErrForm),
	} {
		wantEach(t, s, want)
	}
	wantEach(t, "2,/x/!p", right(guarded(guardOf("2,/x/!"), named(6, 'p')), 7))
	wantEach(t, "1,+2z}", right(guarded(guardOf("1,+2"), named(4, 'z')), 5, mark(2, "+"), mark(4, "z"), mark(5, "}")))
	wantEach(t, "/\\w/, +3 !\t c x", right(guarded(guardOf("/\\w/,+3!"), arged(12, 'c', "x\n")), 15, mark(1, "\\w"), mark(6, "+"), mark(12, "text")))
	wantEach(t, "$!Q", right(guarded(guardOf("$!"), named(2, 'Q')), 3, mark(2, "Q")))
	wantEach(t, " \t p", right(named(3, 'p'), 4))
	wantEach(t, "!{", right(guarded(guardOf("!"), named(1, '{')), 2))
	wantEach(t, "!}", right(guarded(guardOf("!"), named(1, '}')), 2))
}

// P13.1: commands that take nothing end behind blanks at a ; , the end of a line, the end of the script, a } , or a #.
func TestEndsOfCommands(t *testing.T) {
	for i := range len(alone) {
		name, s := alone[i], alone[i:i+1]
		var marks []api.Mark
		if strings.IndexByte("Qz", name) >= 0 {
			marks = []api.Mark{mark(0, s)}
		}
		for _, gap := range []string{"", " ", "\t", " \t  "} {
			place := 1 + len(gap)
			for _, end := range []string{"", ";", "\n", "#", ";}", "\n}", "# }", ";;", "\n \n", "#\n", ";k", "\nk"} {
				wantEach(t, s+gap+end, right(named(0, name), place, marks...))
			}
			for _, end := range []string{"}", "}}", "}p", "};", "} }", "}k"} {
				wantEach(t, s+gap+end, right(named(0, name), place, append(marks[:len(marks):len(marks)], mark(place, "}"))...))
			}
			for _, end := range []string{"p", "=", "{", ":a", "1p", "!", "\\", "\\\n", "/", ",", "\r", "\x0b", "\f", "\x00", "\xff", "\xa0", "k", "x y", "-"} {
				wantEach(t, s+gap+end, wrong(place, api.ErrFlag))
			}
		}
	}
}

// P13.1: each byte behind a command, and whether it can end that.
func TestEachByteBehind(t *testing.T) {
	for i := range 256 {
		b := string([]byte{byte(i)})
		for s, c := range map[string]Command{"p": named(0, 'p'), "y/a/a/": {Name: 'y', Table: tableFrom("", "")}, "s/a/b/": {Name: 's', Sub: subOf("a", false, text("b"))}} {
			want := wrong(len(s), api.ErrFlag)
			switch {
			case strings.Contains(";\n#", b):
				want = right(c, len(s))
			case b == "}":
				want = right(c, len(s), mark(len(s), "}"))
			case strings.Contains(" \t", b):
				want = wrong(len(s)+1, api.ErrFlag)
			case c.Name == 's' && strings.Contains("gpw0123456789", b):
				continue
			}
			wantParse(t, s+b+"k", false, want)
		}
	}
}

// P13.1: { and } end right behind themselves, whatever stands there.
func TestBraces(t *testing.T) {
	for _, s := range []string{"{", "}"} {
		wantBefore(t, s, []string{"p", "}", "{", " p", ";", "\n", "#", "k", "\\", " }", "}}", "\xff", ":a"}, right(named(0, s[0]), 1))
	}
	wantEach(t, "/a/{p}", right(guarded(guardOf("/a/"), named(3, '{')), 4))
	wantEach(t, "/a/ , 2 ! {", right(guarded(guardOf("/a/,2!"), named(10, '{')), 11))
	wantEach(t, " }", right(named(1, '}'), 2))
}

// P13.1: labels, of : and, perhaps, of b, t and T.
func TestLabels(t *testing.T) {
	most := strings.Repeat("x", api.MaxLabel)
	for s, label := range map[string]string{"a": "a", " a": "a", " \ta b \t": "a b", "  x}": "x}", "}": "}", " #a": "#a", "{": "{", " a # b": "a # b", "\\": "\\", " a\\": "a\\", "1,2p": "1,2p", " \xff\x00": "\xff\x00", ":": ":", " é ": "é", "\r": "\r", " " + most + "\t": most} {
		for _, back := range []string{"", ";", "\n", ";p", "\np", ";;", "\n\n", "; }"} {
			wantEach(t, ":"+s+back, right(arged(0, ':', label), 1+len(s)))
			wantEach(t, "b"+s+back, right(arged(0, 'b', label), 1+len(s)))
			wantEach(t, "t"+s+back, right(arged(0, 't', label), 1+len(s)))
			wantEach(t, "T"+s+back, right(arged(0, 'T', label), 1+len(s), mark(0, "T")))
		}
	}
	for _, s := range []string{"", " ", "\t", " \t "} {
		for _, back := range []string{"", ";", "\n", ";a", "\na", ";\n"} {
			wantEach(t, ":"+s+back, wrong(1, api.ErrLabel))
			wantEach(t, "b"+s+back, right(named(0, 'b'), 1+len(s)))
			wantEach(t, "t"+s+back, right(named(0, 't'), 1+len(s)))
			wantEach(t, "T"+s+back, right(named(0, 'T'), 1+len(s), mark(0, "T")))
		}
	}
	for _, s := range []string{most + "x", " " + most + "x", "  x" + most + ";", most + " x\n", strings.Repeat("x", 5000)} {
		for _, name := range []string{":", "b", "t", "T"} {
			wantEach(t, name+s, wrong(1, api.ErrLong))
			if name != ":" {
				wantEach(t, "1,2 "+name+s, wrong(5, api.ErrLong))
			}
		}
	}
	wantEach(t, "1,$!b x}", right(guarded(guardOf("1,$!"), arged(4, 'b', "x}")), 8))
	wantEach(t, " 1b", wrong(1, api.ErrName))
}

// P13.1: files' names, of r and w, behind a blank at least.
func TestFiles(t *testing.T) {
	most := strings.Repeat("f", api.MaxLabel)
	for s, file := range map[string]string{" f": "f", "\tf": "f", "  f g \t": "f g", " f;x": "f;x", " }": "}", " #": "#", " a/b": "a/b", " \\": "\\", " \\n": "\\n", " \xff": "\xff", " ;": ";", " " + most + " ": most} {
		for _, back := range []string{"", "\n", "\n\n", "\np", "\n}"} {
			wantEach(t, "r"+s+back, right(arged(0, 'r', file), 1+len(s)))
			wantEach(t, "1,2w"+s+back, right(guarded(guardOf("1,2"), arged(3, 'w', file)), 4+len(s)))
		}
	}
	for _, back := range []string{"", "\n", "f", ";", "}", "#", "\n f", "\\", most + "f", "\r f", "\x0b"} {
		wantEach(t, "r"+back, wrong(1, api.ErrForm))
		wantEach(t, "1 w"+back, wrong(3, api.ErrForm))
	}
	for _, s := range []string{" ", "\t", "  \t", " \n", "  \nf"} {
		wantEach(t, "r"+s, wrong(1, api.ErrLabel))
		wantEach(t, "1!w"+s, wrong(3, api.ErrLabel))
	}
	for _, s := range []string{" f" + most, "  " + most + "f\n", "\t" + most + ";", " " + strings.Repeat("f", 5000)} {
		wantEach(t, "r"+s, wrong(1, api.ErrLong))
		wantEach(t, "$w"+s, wrong(2, api.ErrLong))
	}
}

// P13.1: texts, of a, i and c: on the lines behind a backslash and the byte A.
func TestTextsOnLines(t *testing.T) {
	for s, want := range map[string]string{
		"hi": "hi\n", "": "\n", "  x ": "  x \n", "a\\\nb": "a\nb\n", "\\\n": "\n\n", "\\\n\\\nz": "\n\nz\n", "a\\b": "ab\n", "\\\\": "\\\n", "\\a\\\\\\;": "a\\;\n", "\\ x": " x\n", "\t": "\t\n", "p;}#": "p;}#\n", "\xff\x00": "\xff\x00\n", "\\\\\\\nx": "\\\nx\n",
	} {
		for _, gap := range []string{"", " ", "\t \t"} {
			head := gap + "\\\n" + s
			for _, name := range []string{"a", "i", "c"} {
				wantEach(t, name+head, right(arged(0, name[0], want), 1+len(head)))
				for _, back := range []string{"\n", "\nx", "\n\n", "\n\\", "\n}"} {
					wantEach(t, name+head+back, right(arged(0, name[0], want), 2+len(head)))
				}
			}
		}
	}
	wantEach(t, "1,$c\\\nx\ny", right(guarded(guardOf("1,$"), arged(3, 'c', "x\n")), 8))
	wantEach(t, "2i\\\na\\\nb", right(guarded(guardOf("2"), arged(1, 'i', "a\nb\n")), 8))
}

// P13.1: texts that begin on the same line: these are extensions, and not empty.
func TestTextsOnTheSameLine(t *testing.T) {
	for s, want := range map[string]string{
		"hi": "hi\n", "hi ": "hi \n", "x\\\ny": "x\ny\n", "\\x": "x\n", "\\ x": " x\n", "\\\\": "\\\n", "\\\\\ny": "", "\\a\\b": "ab\n", "p;}#": "p;}#\n", ";": ";\n", "}": "}\n", "#": "#\n", "1": "1\n", "\xff": "\xff\n", "\r": "\r\n", "\\ \\\n": " \n\n",
	} {
		for _, gap := range []string{"", " ", "\t \t"} {
			for _, name := range []string{"a", "i", "c"} {
				head := name + gap + s
				if want == "" {
					// The byte A behind the two backslashes ends the text.
					wantEach(t, head, right(arged(0, name[0], "\\\n"), len(head)-1, mark(0, "text")))
					continue
				}
				wantEach(t, head, right(arged(0, name[0], want), len(head), mark(0, "text")))
				for _, back := range []string{"\n", "\nx", "\n\n", "\n\\"} {
					wantEach(t, head+back, right(arged(0, name[0], want), len(head)+1, mark(0, "text")))
				}
			}
		}
	}
	wantEach(t, "$!c x\np", right(guarded(guardOf("$!"), arged(2, 'c', "x\n")), 6, mark(2, "text")))
}

// P13.1: texts that aren't there, or end with a backslash.
func TestWrongTexts(t *testing.T) {
	for _, name := range []string{"a", "i", "c"} {
		for _, gap := range []string{"", " ", "\t \t"} {
			head := name + gap
			wantEach(t, head, wrong(len(head), api.ErrTail))
			for _, back := range []string{"\n", "\nx", "\n\\\n", "\n\n"} {
				wantEach(t, head+back, wrong(len(head), api.ErrEnd))
			}
			wantEach(t, head+"\\", wrong(len(head), api.ErrTail))
			wantEach(t, head+"x\\", wrong(len(head)+1, api.ErrTail))
			wantEach(t, head+"\\x\\", wrong(len(head)+2, api.ErrTail))
			wantEach(t, head+"\\\n\\", wrong(len(head)+2, api.ErrTail))
			wantEach(t, head+"\\\nx\\\n\\", wrong(len(head)+5, api.ErrTail))
			wantEach(t, head+"\\\\\\", wrong(len(head)+2, api.ErrTail))
		}
	}
	wantEach(t, "1a", wrong(2, api.ErrTail))
}

// R4, R6, R8: what was answered is the caller's: no later answer can tell what became of it.
func TestNewMemory(t *testing.T) {
	const s = "/a\\+/,+1!s/\\(a\\)\\?/x\\1&/2gp}"
	first := parsed(Parse(s, 0, false))
	want := first.farther(0)
	want.command.Sub.Parts = append([]Part(nil), first.command.Sub.Parts...)
	if len(want.marks) != 4 || len(want.command.Sub.Parts) != 3 {
		t.Errorf("P13.1: Parse: %v", first)
	}
	for i := range first.marks[:cap(first.marks)] {
		first.marks[:cap(first.marks)][i] = mark(-1, "x")
	}
	for i := range first.command.Sub.Parts[:cap(first.command.Sub.Parts)] {
		first.command.Sub.Parts[:cap(first.command.Sub.Parts)][i] = Part{Group: 9, Text: "x"}
	}
	if got := parsed(Parse(s, 0, false)); !got.is(want) {
		t.Errorf("P13.1: Parse again: %v, want %v", got, want)
	}
}
