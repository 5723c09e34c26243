package script

import (
	"fmt"
	"reflect"
	"strings"
	"testing"

	"placket/api"
	"placket/cmd"
)

// The type and calls are just those of the chapter (R11).
var (
	_ = struct {
		Quiet    bool
		Commands []cmd.Command
	}(Script{})

	_ func(s string, extended bool) (Script, []api.Mark, int, api.Errno) = Parse
	_ func(s Script) []int                                               = Script.Pairs
	_ func(s Script, name string) int                                    = Script.Label
	_ func(a, b Script) bool                                             = Same
)

// both are the two values of an option.
var both = []bool{false, true}

// answer is what Parse answers.
type answer struct {
	script Script
	marks  []api.Mark
	place  int
	e      api.Errno
}

func parsed(s Script, marks []api.Mark, place int, e api.Errno) answer {
	return answer{s, marks, place, e}
}

// right is a script and its marks.
func right(quiet bool, commands []cmd.Command, marks ...api.Mark) answer {
	return answer{Script{quiet, commands}, marks, 0, api.OK}
}

// wrong is an error and its place.
func wrong(place int, e api.Errno) answer { return answer{Script{}, nil, place, e} }

// mark is an extension at a place.
func mark(at int, word string) api.Mark { return api.Mark{At: at, Word: word} }

func (a answer) String() string {
	if a.e != api.OK && reflect.DeepEqual(a.script, Script{}) {
		return fmt.Sprintf("error %d at %d, marks %v", a.e, a.place, a.marks)
	}
	return fmt.Sprintf("%.600s, marks %v, place %d, error %d", fmt.Sprintf("%+v", a.script), a.marks, a.place, a.e)
}

// is tells whether two answers are the same in all fields; a list that is empty may be nil.
func (a answer) is(b answer) bool {
	if len(a.marks)+len(b.marks) == 0 {
		a.marks, b.marks = nil, nil
	}
	if len(a.script.Commands)+len(b.script.Commands) == 0 {
		a.script.Commands, b.script.Commands = nil, nil
	}
	return reflect.DeepEqual(a, b)
}

// want holds an answer, of a script that is extended or not.
func want(t *testing.T, s string, extended bool, want answer) {
	t.Helper()
	if got := parsed(Parse(s, extended)); !got.is(want) {
		t.Errorf("P14.1: Parse(%.200q, %t): %v, want %v", s, extended, got, want)
	}
}

// wantEach holds an answer in scripts of both kinds.
func wantEach(t *testing.T, s string, w answer) {
	t.Helper()
	for _, extended := range both {
		want(t, s, extended, w)
	}
}

// commandOf is the command of a text that is one, in a script that isn't extended, as if it stood so many places farther on; and its marks there.
func commandOf(s string, by int) (cmd.Command, []api.Mark) {
	c, marks, _, e := cmd.Parse(s, 0, false)
	if e != api.OK {
		panic("no command: " + s)
	}
	c.At += by
	for i := range marks {
		marks[i].At += by
	}
	return c, marks
}

// laid is texts of commands, each with a gap ahead of it, one at the end, and what is to be read of them.
func laid(texts, gaps []string) (string, answer) {
	s, w := "", right(false, nil)
	for i, text := range texts {
		s += gaps[i]
		c, marks := commandOf(text, len(s))
		w.script.Commands, w.marks = append(w.script.Commands, c), append(w.marks, marks...)
		s += text
	}
	return s + gaps[len(texts)], w
}

// gaps are space and remarks, such as may stand behind any command that ended, and ahead of all.
var gaps = []string{
	";", "\n", " ;", "\t\n", ";;", "\n\n", " ; \t\n;\n ", "#\n", " # x\n", "#p;d}\n\t", ";#\n#{\n;# b x\n", "# a\\\n", "\n#n\n", "##\n #;#\n",
}

// P14.1: scripts without a command are empty ones; the same stands ahead of commands, and behind them.
func TestEmptyScripts(t *testing.T) {
	wantEach(t, "", right(false, nil))
	for _, gap := range gaps {
		wantEach(t, gap, right(false, nil))
		p, _ := commandOf("p", len(gap))
		wantEach(t, gap+"p", right(false, []cmd.Command{p}))
		p.At = 0
		wantEach(t, "p"+gap, right(false, []cmd.Command{p}))
	}
	for _, s := range []string{"#", "# x", " ", "\t", "\n#", "#\\", "# only\n# remarks", " #n", "#;p", "#\n#}", strings.Repeat("#\n", 2000), strings.Repeat(" ", 4000), "#" + strings.Repeat("x", 3999)} {
		wantEach(t, s, right(false, nil))
	}
}

// P14.1: commands one behind the other, with space and remarks ahead of, between and behind them.
func TestGaps(t *testing.T) {
	texts := []string{"p", "1,2!d", "{", "$=", "}", "/a/q", "s/a/b/g", "y/ab/ba/", "z"}
	for first := range gaps {
		var turned, alike []string
		for i := range len(texts) + 1 {
			turned, alike = append(turned, gaps[(first+i)%len(gaps)]), append(alike, gaps[first])
		}
		s, w := laid(texts, turned)
		wantEach(t, s, w)
		s, w = laid(texts, alike)
		wantEach(t, s, w)
	}
	// A label goes on up to a ; or the end of the line.
	texts = []string{":x", "b x", "t", ":y", "T y", "b"}
	for _, gap := range gaps {
		if gap[0] == ';' || gap[0] == '\n' {
			s, w := laid(texts, []string{gap, gap, gap, gap, gap, gap, gap})
			wantEach(t, s, w)
		}
	}
}

// P14.1: behind { and } a command may follow at once.
func TestNoGaps(t *testing.T) {
	none := []string{"", "", "", "", "", "", "", "", ""}
	for _, texts := range [][]string{
		{"{", "}"}, {"{", "}", "p"}, {"{", "{", "}", "}"}, {"{", "}", "{", "}"}, {"{", "}", "1,2{", "}", "$!d"}, {"{", "}", ":x"}, {"{", "}", "s/a/b/"}, {"{", "!}", "p"}, {"1{", "2{", "3!{", "}", "}", "}", "q"},
	} {
		s, w := laid(texts, none[:len(texts)+1])
		wantEach(t, s, w)
	}
	p, _ := commandOf("p", 1)
	open, _ := commandOf("{", 0)
	shut, _ := commandOf("}", 2)
	wantEach(t, "{p}", right(false, []cmd.Command{open, p, shut}, mark(2, "}")))
	shut.At = 4
	wantEach(t, "{p ;}", right(false, []cmd.Command{open, p, shut}))
	wantEach(t, "{p\n }", right(false, []cmd.Command{open, p, shut}))
	wantEach(t, "{p#\n}", right(false, []cmd.Command{open, p, shut}))
	for s, place := range map[string]int{"pp": 1, "p p": 2, "dp": 1, "1p2p": 2, "p{}": 1, "s/a/b/ p": 7, "y/a/b/d": 6, "p:x": 1, "{p{}}": 2} {
		wantEach(t, s, wrong(place, api.ErrFlag))
	}
}

// P14.1: texts, names of files, and labels take what stands up to their ends; the next command stands behind these.
func TestEndsOfWhatIsTaken(t *testing.T) {
	for _, c := range []struct {
		texts, gaps []string
	}{
		{[]string{"a\\\nx;y\n", "p"}, []string{"", "", ""}},
		{[]string{"i\\\nx\\\n}#\n", "d"}, []string{"\n", " ", ""}},
		{[]string{"a x # }\n", "{", "}"}, []string{"", "", "", ""}},
		{[]string{"c\\\n\n", "c\\\n\n", "p"}, []string{"", "", "", ""}},
		{[]string{"r f;p}", "p"}, []string{"", "\n", ""}},
		{[]string{"w f # g", "w h ", "d"}, []string{";", "\n", "\n\n", ""}},
		{[]string{"s/a/b/w f;p}", "d"}, []string{"", "\n", ""}},
		{[]string{":x}", "b x}", ":{"}, []string{"", ";", "\n", ";"}},
		{[]string{": # x", "t # x", "b", "T"}, []string{"", ";", " ;", ";", "\n"}},
		{[]string{"b ", ":p", "bp"}, []string{"", ";", "\n", ""}},
		{[]string{"s,#,},", "y,;,#,", "/#/p", "\\;a;d"}, []string{"", "#\n", "#\n", " #\n", "#"}},
		{[]string{"s/\\n/\\\n/", "p"}, []string{"", "\n", ""}},
	} {
		s, w := laid(c.texts, c.gaps)
		want(t, s, false, w)
	}
}

// P14.1: a script is quiet, if its first line is #n, and nothing else.
func TestQuiet(t *testing.T) {
	for _, s := range []string{"#n", "#n\n", "#n\n\n", "#n\n#n", "#n\n# x\n", "#n\n;"} {
		wantEach(t, s, right(true, nil))
	}
	p, _ := commandOf("p", 3)
	wantEach(t, "#n\np", right(true, []cmd.Command{p}))
	wantEach(t, "#n\np\n#n\n", right(true, []cmd.Command{p}))
	for _, s := range []string{" #n", "\n#n", ";#n", "#n ", "#n \n", "#n\r\n", "# n\n", "#N", "#", "#nn\n", "#n;", "#np\n", "##n", "#\n#n", "\t#n\n", "#n\\\n", "#n#"} {
		wantEach(t, s, right(false, nil))
	}
	p.At = 4
	wantEach(t, "\n#n\np", right(false, []cmd.Command{p}))
	wantEach(t, "#np\np", right(false, []cmd.Command{p}))
	wantEach(t, "#n\nk", wrong(3, api.ErrName))
}

// P14.1: all marks, in order.
func TestMarks(t *testing.T) {
	for s, marks := range map[string][]api.Mark{
		"p":                    nil,
		"Q;z\nT;Q":             {mark(0, "Q"), mark(2, "z"), mark(4, "T"), mark(6, "Q")},
		":x\nb x;t;T\n$!b x":   {mark(9, "T")},
		"{p};{p\n}":            {mark(2, "}")},
		"{{p}}":                {mark(3, "}")},
		"{p }{d\t}":            {mark(3, "}"), mark(7, "}")},
		"a x\ni\\\ny\nc z":     {mark(0, "text"), mark(9, "text")},
		"1,+2z;/a\\|b/,/\\w/p": {mark(2, "+"), mark(4, "z"), mark(8, "\\|"), mark(14, "\\w")},
		"# z\nz # z\n# Q\nQ":   {mark(4, "z"), mark(14, "Q")},
		"1{s/a\\+/\\w/;Q}":     {mark(5, "\\+"), mark(12, "Q"), mark(13, "}")},
	} {
		got := parsed(Parse(s, false))
		if !got.is(answer{got.script, marks, 0, api.OK}) {
			t.Errorf("P14.1: Parse(%q): %v, want the marks %v", s, got, marks)
		}
	}
	wantEach(t, "z;Q;1,+2p}", wrong(9, api.ErrBrace))
	got := parsed(Parse("s/(a)+\\1/b/;z", true))
	if !got.is(answer{got.script, []api.Mark{mark(6, "\\1"), mark(12, "z")}, 0, api.OK}) {
		t.Errorf("P14.1: Parse of an extended one: %v", got)
	}
}

// P14.1: the kind of script is that of all of its regexes.
func TestKinds(t *testing.T) {
	for _, extended := range both {
		s := "/(a)+/p;s/(a|b)/&/"
		got := parsed(Parse(s, extended))
		first, _, place, _ := cmd.Parse(s, 0, extended)
		second, _, _, _ := cmd.Parse(s, place+1, extended)
		if !got.is(right(false, []cmd.Command{first, second})) {
			t.Errorf("P14.1: Parse(%q, %t): %v", s, extended, got)
		}
	}
	want(t, "p;s/(a)/\\1/", false, wrong(8, api.ErrBack))
	if got := parsed(Parse("p;s/(a)/\\1/", true)); got.e != api.OK {
		t.Errorf("P14.1: Parse of an extended one: %v", got)
	}
}

// P14.1: more bytes than MaxScript are told ahead of all else.
func TestTooLongScripts(t *testing.T) {
	if api.MaxScript != 4000 || api.MaxCommands != 100 || api.MaxBrace != 12 {
		t.Fatal("the limits aren't those of the document")
	}
	for _, s := range []string{"", "p", "k", "}", "{", "b x", ":a\n:a", strings.Repeat("{", 13), strings.Repeat("p;", 101), "#n\n", "s", "1,k"} {
		for _, most := range []int{api.MaxScript + 1, api.MaxScript + 2, 2 * api.MaxScript} {
			wantEach(t, s+strings.Repeat(" ", most-len(s)), wrong(api.MaxScript, api.ErrLong))
		}
	}
	wantEach(t, strings.Repeat("#", 1<<20), wrong(api.MaxScript, api.ErrLong))
	wantEach(t, strings.Repeat("\n", 3999)+"k", wrong(3999, api.ErrName))
	p, _ := commandOf("p", 3999)
	wantEach(t, strings.Repeat("\n", 3999)+"p", right(false, []cmd.Command{p}))
	wantEach(t, "#"+strings.Repeat("x", 3997)+"\nk", wrong(3999, api.ErrName))
}

// P14.1: as many commands as MaxCommands may be, and one more is told where it begins, whatever it is.
func TestTooManyCommands(t *testing.T) {
	var texts, ends []string
	for range api.MaxCommands {
		texts, ends = append(texts, "p"), append(ends, ";")
	}
	full, w := laid(texts, append([]string{""}, ends...))
	for _, back := range []string{"", ";", "\n", " ", " \t\n;", "# x", "#\n", "#p\n#", "\n\n;"} {
		wantEach(t, full+back, w)
		for _, more := range []string{"p", "1,2!p", "k", "}", "{", ":x", "b y", "1", "0p", "p p", "s", "!}", "a", "p;p", "/a", "\\"} {
			if back != "# x" && back != "#p\n#" {
				wantEach(t, full+back+more, wrong(len(full+back), api.ErrLong))
			}
		}
	}
	last := len(full) - 2
	wantEach(t, full[:last]+"k", wrong(last, api.ErrName))
	wantEach(t, full[:last]+"}", wrong(last, api.ErrBrace))
	wantEach(t, full[:last]+"{", wrong(last, api.ErrBrace))
	wantEach(t, full[:last]+"bx", wrong(last, api.ErrLabel))
	wantEach(t, full[:last]+"{p", wrong(last+1, api.ErrLong))
	wantEach(t, "{"+full[:last]+"}", wrong(last+1, api.ErrLong))
	wantEach(t, "{b x;"+full, wrong(5+2*98, api.ErrLong))
	wantEach(t, ":x;"+full[2:]+":x", wrong(3+2*99, api.ErrLong))
	wantEach(t, strings.Repeat("{}", 51), wrong(100, api.ErrLong))
	if got := parsed(Parse(strings.Repeat("{}", 50), false)); got.e != api.OK || len(got.script.Commands) != 100 {
		t.Errorf("P14.1: Parse of 50 pairs: %v", got)
	}
}

// P14.1: a command's own errors, at their places, wherever it stands.
func TestCommandsErrors(t *testing.T) {
	fronts := []string{"", "p;", "#n\n", "{\n", "# }\n;", "{{{}", ":x\n", "b y\n", "a\\\nx\n", "1,2s/a/b/w f\n", strings.Repeat("p\n", 99), strings.Repeat("{", 12)}
	for s, w := range map[string]answer{
		"k": wrong(0, api.ErrName), "1,k": wrong(2, api.ErrAddr), "0p": wrong(0, api.ErrAddr), "1": wrong(1, api.ErrEnd), "1!!p": wrong(2, api.ErrTwice), "1}": wrong(1, api.ErrExtra), "1,2q": wrong(3, api.ErrExtra), "1:x": wrong(1, api.ErrExtra),
		":": wrong(1, api.ErrLabel), ":;:x": wrong(1, api.ErrLabel), "b " + strings.Repeat("x", 41): wrong(1, api.ErrLong), "a": wrong(1, api.ErrTail), "a\n": wrong(1, api.ErrEnd), "r": wrong(1, api.ErrForm), "w \np": wrong(1, api.ErrLabel), "s": wrong(1, api.ErrEnd), "s//x/": wrong(2, api.ErrForm),
		"s/a/\\1/": wrong(4, api.ErrBack), "s/a/b/gg": wrong(7, api.ErrTwice), "s/a/b/0": wrong(6, api.ErrRange), "y/a/bc/": wrong(4, api.ErrMap), "y/aa/bc/": wrong(5, api.ErrTwice), "p x": wrong(2, api.ErrFlag), "1000000000p": wrong(0, api.ErrLong), "/[z-a]/p": wrong(1, api.ErrRange), "/[[:x:]]/p": wrong(1, api.ErrClass),
		"/a\\q/p": wrong(1, api.ErrForm), "1 \np": wrong(2, api.ErrName), "1#\np": wrong(1, api.ErrName), "!;p": wrong(1, api.ErrName), "1,#": wrong(2, api.ErrAddr), "a\\": wrong(1, api.ErrTail), "/" + strings.Repeat("\\(", 13) + strings.Repeat("\\)", 13) + "/p": wrong(1, api.ErrDeep),
	} {
		for _, front := range fronts {
			w := wrong(len(front)+w.place, w.e)
			want(t, front+s, false, w)
			if !strings.HasSuffix(s, "1") && s != "a" && s != "a\\" && s != "r" && s != "s" {
				want(t, front+s+"\n}", false, w)
			}
		}
	}
}

// P14.1: MaxBrace of { in one another may be; one more is told at its name.
func TestDeepBraces(t *testing.T) {
	const most = api.MaxBrace
	var texts []string
	none := make([]string, 4*most+1)
	for _, text := range []string{"{", "}", "{", "}"} {
		for range most {
			texts = append(texts, text)
		}
	}
	s, w := laid(texts, none)
	wantEach(t, s, w)
	for _, gap := range []string{"", ";", " \n", "#{\n"} {
		head := strings.Repeat("{"+gap, most)
		wantEach(t, head+"{", wrong(len(head), api.ErrDeep))
		wantEach(t, head+"1,2 ! {}}", wrong(len(head)+6, api.ErrDeep))
		wantEach(t, head+"p;$!{k", wrong(len(head)+4, api.ErrDeep))
		wantEach(t, head+"{"+strings.Repeat("}", most+1), wrong(len(head), api.ErrDeep))
		wantEach(t, head+"};{{", wrong(len(head)+3, api.ErrDeep))
		wantEach(t, "{}{p\n}"+head+"{", wrong(len(head)+6, api.ErrDeep))
		wantEach(t, head+"1,2,{", wrong(len(head)+3, api.ErrName))
		wantEach(t, head+"b x;{", wrong(len(head)+4, api.ErrDeep))
		wantEach(t, head, wrong(len(head)-len(gap)-1, api.ErrBrace))
	}
}

// P14.1: a } that ends no { is told at its name; a { that no } ends behind all, the last one.
func TestUnevenBraces(t *testing.T) {
	for s, place := range map[string]int{
		"}": 0, "p;}": 2, "p}": 1, "p }": 2, "!}": 1, "p; ! }": 5, "{}}": 2, "{p}}": 3, "{}\n{}\n}": 6, "#{\n}": 3, "};k": 0, "};{": 0, "b x;}": 4, "}b x": 0, "a {\n}": 4, "}:a;:a": 0, ":a;}:a": 3, "s/a/}/}": 6,
		"{": 0, "{p": 0, "p;1{\n{\n}": 3, "{{": 1, "{{}": 0, "{}{": 2, "1,2!{": 4, "{p;{d\n};1{": 9, "{\n{}": 0, "{{{}}": 0, "{a }\n": 0, "{#}": 0, "{b }": 0, "{:}": 0, "{r }": 0, "{;{b x}": 2, "b x;{": 4, "{b x": 0, "{t x;{}": 0, "#n\n/a/{p;b x}": 6,
	} {
		wantEach(t, s, wrong(place, api.ErrBrace))
	}
}

// P14.1: a : whose label is there is told at its name.
func TestLabelsTwice(t *testing.T) {
	long := strings.Repeat("x", api.MaxLabel)
	for s, place := range map[string]int{
		":x\n:x": 3, ":x\np\n:x": 5, ":x;:x": 3, ":x; :  x ;k": 4, ":a b\n: a b": 5, ":x;:y;:z;:y": 9, "{:x;};:x": 6, ":x;{:x": 4, ":x;:x;}": 3, "b q;:x;:x": 7, ":x;!:x": 4, ":" + long + ";:" + long: 42, ":}\n:}": 3, ":x;:x\x00;:x": 7,
	} {
		wantEach(t, s, wrong(place, api.ErrTwice))
	}
	for _, texts := range [][]string{{":x", ":y"}, {":x", ":X"}, {":a b", ":a  b"}, {":x", ":xx", ":xxx"}, {":x", ":x}"}, {":x", "b x", "b x", "t x", "T x"}, {":" + long, ":" + long[1:]}, {":\xff", ":\xfe"}} {
		s, w := laid(texts, []string{"", ";", "\n", " ;", ";", ""}[:len(texts)+1])
		wantEach(t, s, w)
	}
}

// P14.1: a label that no : has is told behind all, at the name of the first b, t or T that has it.
func TestLabelsThatAreNotThere(t *testing.T) {
	for s, place := range map[string]int{
		"b x": 0, "1b x\n:y": 1, "t x": 0, "T x": 0, "p;1,2!t x;p": 6, "b;t;T;b x": 6, ":x;b x;b y;t z": 7, "b y;:x": 0, "b x}\n:x": 0, "b :x;:x": 0, "b X;:x": 0, "{p\nb x\n}": 3, "/a/T y\nb x": 3, "b x;t y;:x": 4, "a :x\nb x": 5, "#:x\nb x": 4, "r :x\nb x": 5, ":x y;b x": 5, ":xx\nb x": 4,
	} {
		wantEach(t, s, wrong(place, api.ErrLabel))
	}
	for _, texts := range [][]string{{"b x", ":x"}, {"b", "t", "T"}, {"b ", "t\t", "T "}, {":x", "bx", "t x ", "T\tx"}, {"{", "b x", "}", "{", ":x", "}"}, {"b y", "b x", ":x", ":y"}, {":x}", "b x}"}, {"a x", "r x", "w x"}} {
		s, w := laid(texts, []string{"", "\n", "\n", "\n", "\n", "\n", "\n"}[:len(texts)+1])
		wantEach(t, s, w)
	}
	wantEach(t, "b x;{;:x;b y", wrong(4, api.ErrBrace))
	wantEach(t, "b x;k", wrong(4, api.ErrName))
	wantEach(t, "b x;:y;:y", wrong(7, api.ErrTwice))
	wantEach(t, "b x;"+strings.Repeat("p;", 100), wrong(4+2*99, api.ErrLong))
}

// R4, R6, R8: what was answered is the caller's: no later answer can tell what became of it.
func TestNewMemory(t *testing.T) {
	const s = "#n\n:x;/a\\+/{s/\\(a\\)/\\1b/;z}\nb x;Q"
	first, again := parsed(Parse(s, false)), parsed(Parse(s, false))
	if first.e != api.OK || len(first.script.Commands) != 7 || len(first.marks) != 4 || !first.is(again) {
		t.Fatalf("P14.1: Parse: %v", first)
	}
	pairs := first.script.Pairs()
	for i := range pairs[:cap(pairs)] {
		pairs[:cap(pairs)][i] = -9
	}
	if got := first.script.Pairs(); !reflect.DeepEqual(got, []int{-1, 4, -1, -1, 1, -1, -1}) || !first.is(again) {
		t.Errorf("P14.1: Pairs again: %v", got)
	}
	for i := range first.marks[:cap(first.marks)] {
		first.marks[:cap(first.marks)][i] = mark(-9, "x")
	}
	all := first.script.Commands
	all[2].Sub.Parts[0] = cmd.Part{Group: 9, Text: "x"}
	for i := range all[:cap(all)] {
		all[:cap(all)][i] = cmd.Command{At: -9}
	}
	if got := parsed(Parse(s, false)); !got.is(again) {
		t.Errorf("P14.1: Parse again: %v, want %v", got, again)
	}
}
