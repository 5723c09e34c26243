package script

import (
	"regexp"
	"slices"
	"strings"
	"testing"

	"placket/api"
	"placket/cmd"
)

// The shapes of what stands between commands, of a quiet script's beginning, and of a pair of braces without others in it.
var (
	gapShape   = regexp.MustCompile(`^(?:[ \t\n;]|#[^\n]*)*`)
	quietShape = regexp.MustCompile(`^#n(\n|\z)`)
	pairShape  = regexp.MustCompile(`\{[^{}]*\}`)
)

// fault is an error and its place, or none.
type fault struct {
	place int
	e     api.Errno
}

// commandsAgain reads commands up to the first that has an error of its own, or is one too many.
func commandsAgain(s string, extended bool) ([]cmd.Command, []api.Mark, fault) {
	var commands []cmd.Command
	var all []api.Mark
	for at := len(gapShape.FindString(s)); at < len(s); at += len(gapShape.FindString(s[at:])) {
		if len(commands) == 100 {
			return commands, all, fault{at, api.ErrLong}
		}
		c, marks, place, e := cmd.Parse(s, at, extended)
		if e != api.OK {
			return commands, all, fault{place, e}
		}
		commands, all, at = append(commands, c), append(all, marks...), place
	}
	return commands, all, fault{}
}

// depths is of each of some names how many { are open behind it.
func depths(names string) []int {
	var all []int
	for i := range len(names) {
		all = append(all, strings.Count(names[:i+1], "{")-strings.Count(names[:i+1], "}"))
	}
	return all
}

// scriptAgain reads a script: first each command alone, then what they are to each other.
func scriptAgain(s string, extended bool) answer {
	if len(s) > 4000 {
		return wrong(4000, api.ErrLong)
	}
	commands, marks, own := commandsAgain(s, extended)
	names, labels := "", []string{}
	for _, c := range commands {
		names += string([]byte{c.Name})
	}
	deep := depths(names)
	for i, c := range commands {
		switch {
		case deep[i] > 12:
			return wrong(c.At, api.ErrDeep)
		case deep[i] < 0:
			return wrong(c.At, api.ErrBrace)
		case c.Name == ':' && slices.Contains(labels, c.Arg):
			return wrong(c.At, api.ErrTwice)
		case c.Name == ':':
			labels = append(labels, c.Arg)
		}
	}
	if own.e != api.OK {
		return wrong(own.place, own.e)
	}
	// What is left of the braces, once all pairs are away, is those that aren't ended.
	for pairShape.MatchString(names) {
		names = pairShape.ReplaceAllStringFunc(names, func(pair string) string { return strings.Repeat(".", len(pair)) })
	}
	if last := strings.LastIndexByte(names, '{'); last >= 0 {
		return wrong(commands[last].At, api.ErrBrace)
	}
	for _, c := range commands {
		if strings.IndexByte("btT", c.Name) >= 0 && c.Arg != "" && !slices.Contains(labels, c.Arg) {
			return wrong(c.At, api.ErrLabel)
		}
	}
	return right(quietShape.MatchString(s), commands, marks...)
}

// wantAgain holds what Parse answers of a text against the second reading, and what Pairs and Label tell of it.
func wantAgain(t *testing.T, s string, extended bool) {
	t.Helper()
	got, again := parsed(Parse(s, extended)), scriptAgain(s, extended)
	if !got.is(again) {
		t.Fatalf("P14.1: Parse(%q, %t): %v, want %v", s, extended, got, again)
	}
	names := ""
	for i, c := range got.script.Commands {
		names += string([]byte{c.Name})
		if c.Name == ':' && got.script.Label(c.Arg) != i {
			t.Fatalf("P14.1: Label(%q) of %q: %d, want %d", c.Arg, s, got.script.Label(c.Arg), i)
		}
	}
	if pairs := got.script.Pairs(); !slices.Equal(pairs, pairsAgain(names)) {
		t.Fatalf("P14.1: Pairs of %q: %v, want %v", s, pairs, pairsAgain(names))
	}
}

// wantTails holds it of a head with all tails of so many of some signs at most.
func wantTails(t *testing.T, head, signs string, most int) {
	t.Helper()
	for _, extended := range both {
		wantAgain(t, head, extended)
	}
	for i := 0; most > 0 && i < len(signs); i++ {
		wantTails(t, head+signs[i:i+1], signs, most-1)
	}
}

// P14.1 and P7: of all short texts of the bytes that matter Parse answers as a second reading does.
func TestAllShortTexts(t *testing.T) {
	wantTails(t, "", "p{}#\n; n1", 5)
	wantTails(t, "", ":bx;{}\n#", 5)
	for _, head := range []string{"#n\n", "#n", ":x\n", "b x\n", "{{", "{p;", "a\\\n", "{}", strings.Repeat("p\n", 98), strings.Repeat("{", 11)} {
		wantTails(t, head, "p{};\n#!", 4)
		wantTails(t, head, ":tx;}\n", 4)
	}
}

// numbersFrom makes numbers below others, the same ones each time.
func numbersFrom(x uint32) func(below int) int {
	return func(below int) int {
		x ^= x << 13
		x ^= x >> 17
		x ^= x << 5
		return int(x % uint32(below))
	}
}

// P14.1 and P7: the same of longer texts that are put together of parts.
func TestTextsOfParts(t *testing.T) {
	parts := []string{
		"p", "1,2d;", "$!N\n", "{", "{", "/a/{\n", "1,+2!{", "}", "}", "}\n", " ; ", "\n", ";", "# x\n", "#n\n", "#", " ", ":x\n", ":x;", ": y\n", ":z\n", "b x\n", "t y;", "T\n", "b\n", "b z}\n", "T z;", "a\\\nx\\\ny\n", "i x\n", "r f\n", "w g\n", "s/a\\+/&/2w h\n", "s,a,b,p", "y/ab/ba/;", "z;", "Q}", "=\n", "x;", "k", "0p", "p p",
	}
	next := numbersFrom(2463534242)
	for range 100000 {
		var text strings.Builder
		for range 1 + next(14) {
			text.WriteString(parts[next(len(parts)-next(2)*3)])
		}
		wantAgain(t, text.String(), next(2) == 0)
	}
}

// P14.1: the same of texts that are near the limits.
func TestTextsNearTheLimits(t *testing.T) {
	parts := []string{"p;", "p\n", "{", "{", "{", "}", "}", "d;", "#\n", "{}", ":x\n", "b x\n", "k", "p ; "}
	next := numbersFrom(88172645)
	for range 20000 {
		text := strings.Repeat(parts[next(2)], next(99)) + strings.Repeat("{", next(14))
		for range 1 + next(30) {
			text += parts[next(len(parts)-next(2)*4)]
		}
		wantAgain(t, text+strings.Repeat("}", next(14)), false)
	}
	for n := range 40 {
		wantAgain(t, strings.Repeat("p;", n)+strings.Repeat(" ", 4000-2*n), false)
		wantAgain(t, strings.Repeat("p;", n)+strings.Repeat(" ", 4001-2*n), false)
	}
}

// P7, R3 and R8: of texts of any bytes Parse answers the same each time; an error's place is one of the text; beside an error stands nothing else, and without one no place.
func TestTextsOfAnyBytes(t *testing.T) {
	const signs = "ppdd{{}}::bbtTxxnQz12,!$ \t\n\n;;##//\\[]s&ya=\x00\xff"
	next := numbersFrom(521288629)
	for range 300000 {
		s := make([]byte, next(24))
		for i := range s {
			s[i] = signs[next(len(signs))]
		}
		extended := next(2) == 0
		got := parsed(Parse(string(s), extended))
		fits := got.is(wrong(got.place, got.e)) && 0 <= got.place && got.place <= len(s)
		if got.e == api.OK {
			fits = got.place == 0
		}
		if !fits || !got.is(parsed(Parse(string(s), extended))) || !got.is(scriptAgain(string(s), extended)) {
			t.Fatalf("P14.1: Parse(%q, %t): %v", s, extended, got)
		}
	}
}

// P7: texts that are much too long, or deep, end, too.
func TestLongTexts(t *testing.T) {
	for _, part := range []string{"{", "}", "p;", "#", "\n", ":", "a", "s/a/b/w", "\xff", "1,"} {
		wantEach(t, strings.Repeat(part, 1<<20), wrong(4000, api.ErrLong))
		for _, extended := range both {
			wantAgain(t, strings.Repeat(part, 4000/len(part)), extended)
		}
	}
}
