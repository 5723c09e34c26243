package script

import (
	"slices"
	"strings"
	"testing"

	"placket/api"
	"placket/cmd"
)

// read is the script of a text that is one.
func read(t *testing.T, s string, extended bool) Script {
	t.Helper()
	x, _, _, e := Parse(s, extended)
	if e != api.OK {
		t.Fatalf("P14.1: Parse(%.100q): %d", s, e)
	}
	return x
}

// pairsAgain is the pairs of commands of some names: of each { the first place behind which as many } stand as { .
func pairsAgain(names string) []int {
	pairs := []int{}
	for range names {
		pairs = append(pairs, -1)
	}
	for i := range names {
		for j := i + 1; names[i] == '{' && pairs[i] < 0; j++ {
			if within := names[i : j+1]; strings.Count(within, "{") == strings.Count(within, "}") {
				pairs[i], pairs[j] = j, i
			}
		}
	}
	return pairs
}

// P14.1: of each command the one with which it makes a pair.
func TestPairs(t *testing.T) {
	for s, want := range map[string][]int{
		"": {}, "p": {-1}, "{}": {1, 0}, "{p}": {2, -1, 0}, "p;{}": {-1, 2, 1}, "{};p": {1, 0, -1}, "{{}}": {3, 2, 1, 0}, "{}{}": {1, 0, 3, 2}, "/a/{p\n{d\n}\n}": {5, -1, 4, -1, 2, 0}, "{{}{}}": {5, 2, 1, 4, 3, 0}, "{p;1{p;p};!{}}": {8, -1, 5, -1, -1, 2, 7, 6, 0},
		"a {\n": {-1}, "#{\np": {-1}, "y/{/}/\ni\\\n}": {-1, -1}, ":{\n{b {\n}": {-1, 3, -1, 1},
		strings.Repeat("{", 12) + strings.Repeat("}", 12): {23, 22, 21, 20, 19, 18, 17, 16, 15, 14, 13, 12, 11, 10, 9, 8, 7, 6, 5, 4, 3, 2, 1, 0},
	} {
		if got := read(t, s, false).Pairs(); !slices.Equal(got, want) {
			t.Errorf("P14.1: Pairs of %q: %v, want %v", s, got, want)
		}
	}
	if got := (Script{}).Pairs(); len(got) != 0 {
		t.Errorf("P14.1: Pairs of an empty script: %v", got)
	}
}

// commandsOf is a script of commands of some names, and nothing else.
func commandsOf(names string) Script {
	var s Script
	for i := range len(names) {
		s.Commands = append(s.Commands, cmd.Command{Name: names[i]})
	}
	return s
}

// P14.1 and R9: the same of all short lists of braces and others; of those that aren't even, which no text has, it is held only that there is an answer.
func TestPairsOfAllShortScripts(t *testing.T) {
	lists := []string{""}
	for range 9 {
		var longer []string
		for _, names := range lists {
			got := commandsOf(names).Pairs()
			if len(got) != len(names) {
				t.Errorf("P14.1: Pairs of %q: %v", names, got)
			}
			if _, _, _, e := Parse(strings.ReplaceAll(names, "p", "p;"), false); e == api.OK && !slices.Equal(got, pairsAgain(names)) {
				t.Errorf("P14.1: Pairs of %q: %v, want %v", names, got, pairsAgain(names))
			}
			longer = append(longer, names+"{", names+"}", names+"p")
		}
		lists = longer
	}
}

// P14.1: the number of the : of a label.
func TestLabel(t *testing.T) {
	long := strings.Repeat("x", api.MaxLabel)
	x := read(t, "p\n:a\n:b b \nb a;t c\n{:c\n}\ni\\\na\nr f\n: "+long+" ;:d}\nT d}", false)
	for name, want := range map[string]int{
		"a": 1, "b b": 2, "c": 6, long: 10, "d}": 11,
		"": -1, "b": -1, " a": -1, "a ": -1, "b  b": -1, "d": -1, "f": -1, "a\n": -1, ":a": -1, "A": -1, long[1:]: -1, long + "x": -1, "\x00": -1,
	} {
		if got := x.Label(name); got != want {
			t.Errorf("P14.1: Label(%q): %d, want %d", name, got, want)
		}
	}
	for _, s := range []string{"", "p", "b", "t;T", "r a", "a a", "w a"} {
		for _, name := range []string{"", "a", "a\n"} {
			if got := read(t, s, false).Label(name); got != -1 {
				t.Errorf("P14.1: Label(%q) of %q: %d", name, s, got)
			}
		}
	}
	if got := read(t, "#n\n:x", true).Label("x"); got != 0 {
		t.Errorf("P14.1: Label of the first command: %d", got)
	}
	if got := read(t, strings.Repeat("p;", 99)+":x", true).Label("x"); got != 99 {
		t.Errorf("P14.1: Label of the last command: %d", got)
	}
}

// P14.1: scripts that differ in what counts aren't the same.
func TestSameOfUnlikeScripts(t *testing.T) {
	all := []string{
		"", "#n", "p", "#n\np", "d", "p;p", "#n\np;p", "p;d", "d;p", "p;p;p", "1p", "!p", "{p\n}", "{}p", "{};p;p", "{};{}", "{{}}", ":x", ":y", "b", ":x;b x", ":x;:y;b x", ":y;:x;b x", ":x;b", ":x;t x", "b x;:x", "a x", "a y", "a x\\\ny", "a x\na y", "r f", "w f", "s/a/b/", "s/a/c/", "s/a/b/g", "s/b/b/", "y/a/b/", "y/a/c/",
	}
	for i, a := range all {
		for j, b := range all {
			for _, extended := range both {
				if got := Same(read(t, a, extended), read(t, b, extended)); got != (i == j) {
					t.Errorf("P14.1: Same of %q and %q: %t", a, b, got)
				}
			}
		}
	}
}

// P14.1: those that differ in where their commands stand, in space and remarks, and in how regexes are written, are the same.
func TestSameOfScriptsWrittenOtherwise(t *testing.T) {
	for a, b := range map[string]string{
		"": " # x\n;", "#n": "#n\n\n# n\n", "p": "\n ; p # x\n", "#n\np": "#n\n#n\np", "p;d": "p\n\n\td#", "{p}": "{\np\n}\n", "/a/p": "\\,[a],p", ":x;b x": ": x \nb  x", "a x": "a\\\nx\n", "s/a/b/;p": "s,[a],b, ; p\n", "y/ab/ba/": "y,ba,ab,", "1,2{p;}": "1 , 2 {p}",
	} {
		if x, y := read(t, a, false), read(t, b, true); !Same(x, y) || !Same(y, x) {
			t.Errorf("P14.1: Same of %q and %q: false", a, b)
		}
	}
	if x, y := read(t, "s/\\(a\\)\\+/\\1/;p", false), read(t, "s/(a)+/\\1/\np", true); !Same(x, y) {
		t.Error("P14.1: Same of both kinds: false")
	}
	if x, y := read(t, "s/a+/b/;p", false), read(t, "s/a+/b/;p", true); Same(x, y) {
		t.Error("P14.1: Same of unlike regexes: true")
	}
}

// R7: of scripts of any fields both count.
func TestSameOfAnyFields(t *testing.T) {
	p, d := cmd.Command{Name: 'p'}, cmd.Command{Name: 'd'}
	far := cmd.Command{Name: 'p', At: 7}
	all := []Script{{}, {Quiet: true}, {Commands: []cmd.Command{p}}, {true, []cmd.Command{p}}, {false, []cmd.Command{p, d}}, {false, []cmd.Command{d, p}}, {false, []cmd.Command{{}}}}
	for i, a := range all {
		for j, b := range all {
			if Same(a, b) != (i == j) {
				t.Errorf("P14.1: Same of %+v and %+v: %t", a, b, i != j)
			}
		}
	}
	if !Same(Script{}, Script{Commands: []cmd.Command{}}) || !Same(all[2], Script{Commands: []cmd.Command{far}}) {
		t.Error("P14.1: Same, of what doesn't count: false")
	}
}
