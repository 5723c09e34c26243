package bre

import (
	"fmt"
	"reflect"
	"regexp"
	"slices"
	"strings"
	"testing"

	"placket/api"
	"placket/bracket"
	"placket/octet"
	"placket/tree"
)

// The call is just that of the chapter (R11).
var _ func(s string) (tree.Node, []api.Mark, int, api.Errno) = Parse

func one(bytes string) tree.Node                  { return tree.One{Set: octet.Of([]byte(bytes)...)} }
func set(s octet.Set) tree.Node                   { return tree.One{Set: s} }
func cat(parts ...tree.Node) tree.Node            { return tree.Cat{Parts: parts} }
func alt(parts ...tree.Node) tree.Node            { return tree.Alt{Parts: parts} }
func rep(of tree.Node, least, most int) tree.Node { return tree.Rep{Of: of, Min: least, Max: most} }
func group(n int, of tree.Node) tree.Node         { return tree.Group{Number: n, Of: of} }
func back(n int) tree.Node                        { return tree.Back{Number: n} }
func mark(at int, word string) api.Mark           { return api.Mark{At: at, Word: word} }

var (
	empty, start, end = tree.Node(tree.Empty{}), tree.Node(tree.Start{}), tree.Node(tree.End{})
	a, b, c           = one("a"), one("b"), one("c")
)

// bytesOf is a One of those of the 256 bytes of which a test holds.
func bytesOf(test func(b byte) bool) tree.Node {
	var bytes []byte
	for i := range 256 {
		if test(byte(i)) {
			bytes = append(bytes, byte(i))
		}
	}
	return one(string(bytes))
}

func isWord(b byte) bool {
	return 'a' <= b && b <= 'z' || 'A' <= b && b <= 'Z' || '0' <= b && b <= '9' || b == '_'
}

func isSpace(b byte) bool { return 9 <= b && b <= 0xd || b == 0x20 }

func isPunct(b byte) bool { return 0x21 <= b && b <= 0x7e && (!isWord(b) || b == '_') }

// wantOnce parses a text: just this tree, which is right, and these marks.
func wantOnce(t *testing.T, s string, want tree.Node, marks []api.Mark) {
	t.Helper()
	node, told, place, e := Parse(s)
	if e != api.OK || place != 0 {
		t.Errorf("P4.1: Parse(%q): error %d at %d", s, e, place)
		return
	}
	if !reflect.DeepEqual(node, want) {
		t.Errorf("P4.1: Parse(%q): %#v, not %#v", s, node, want)
	}
	if !tree.Right(node) {
		t.Errorf("P4.1: Parse(%q): a tree that isn't right", s)
	}
	if !slices.Equal(told, marks) {
		t.Errorf("P4.1: Parse(%q): marks %v, not %v", s, told, marks)
	}
}

// moved are marks so many bytes farther on.
func moved(marks []api.Mark, by int) []api.Mark {
	var all []api.Mark
	for _, m := range marks {
		all = append(all, mark(m.At+by, m.Word))
	}
	return all
}

// wantTree parses a text by itself, and as one of two branches; if it has no groups, also as a group.
func wantTree(t *testing.T, s string, want tree.Node, marks ...api.Mark) {
	t.Helper()
	wantOnce(t, s, want, marks)
	parts := []tree.Node{want}
	if all, ok := want.(tree.Alt); ok {
		parts = all.Parts
	}
	wantOnce(t, s+`\|xy`, tree.Alt{Parts: append(slices.Clone(parts), cat(one("x"), one("y")))}, append(slices.Clone(marks), mark(len(s), `\|`)))
	wantOnce(t, `xy\|`+s, tree.Alt{Parts: append([]tree.Node{cat(one("x"), one("y"))}, parts...)}, append([]api.Mark{mark(2, `\|`)}, moved(marks, 4)...))
	if tree.Groups(want) == 0 {
		wantOnce(t, `\(`+s+`\)`, group(1, want), moved(marks, 2))
		wantOnce(t, `x\(\(\)\(`+s+`\)\)y`, cat(one("x"), group(1, cat(group(2, empty), group(3, want))), one("y")), moved(marks, 9))
	}
}

// wantErrorOnce parses a text that is wrong: just this error at this place, and nothing beside it.
func wantErrorOnce(t *testing.T, s string, place int, want api.Errno) {
	t.Helper()
	node, marks, at, e := Parse(s)
	if e != want || at != place {
		t.Errorf("P4.1: Parse(%q): error %d at %d, not %d at %d", s, e, at, want, place)
	}
	if node != nil || len(marks) != 0 {
		t.Errorf("P8 (R3): Parse(%q): a tree, or marks, beside an error", s)
	}
}

// wantError parses a text that is wrong by itself, and as a second branch.
func wantError(t *testing.T, s string, place int, want api.Errno) {
	t.Helper()
	wantErrorOnce(t, s, place, want)
	wantErrorOnce(t, `\w\(x\)\{3\}\|`+s, place+14, want)
}

// P4.1: the chapter's examples.
func TestExamples(t *testing.T) {
	wantTree(t, `a*\(b\)\1`, cat(rep(a, 0, -1), group(1, b), back(1)))
	wantTree(t, `*a`, cat(one("*"), a))
}

// P4.1: the empty text, and branches without pieces: Empty.
func TestEmpty(t *testing.T) {
	wantTree(t, "", empty)
	wantTree(t, `\|`, alt(empty, empty), mark(0, `\|`))
	wantTree(t, `\|\|a`, alt(empty, empty, a), mark(0, `\|`), mark(2, `\|`))
	wantTree(t, `a\|\|`, alt(a, empty, empty), mark(1, `\|`), mark(3, `\|`))
	wantTree(t, `\(\)`, group(1, empty))
	wantTree(t, `\(\|\)`, group(1, alt(empty, empty)), mark(2, `\|`))
	wantTree(t, `\(\)*`, rep(group(1, empty), 0, -1))
}

// P4.1: branches, the pieces of which are joined, and which are chosen from.
func TestBranches(t *testing.T) {
	wantTree(t, "a", a)
	wantTree(t, "abc", cat(a, b, c))
	wantTree(t, `a\|b`, alt(a, b), mark(1, `\|`))
	wantTree(t, `ab\|c\|`, alt(cat(a, b), c, empty), mark(2, `\|`), mark(5, `\|`))
	wantTree(t, `a\|\(b\|c\)\|a`, alt(a, group(1, alt(b, c)), a), mark(1, `\|`), mark(6, `\|`), mark(11, `\|`))
	wantTree(t, `a|b`, cat(a, one("|"), b))
	wantTree(t, `a\\|b`, cat(a, one(`\`), one("|"), b))
}

// P4.1: each byte by itself stands for itself, but \ . [ , and ^ $ * where they don't.
func TestEachByte(t *testing.T) {
	for i := range 256 {
		s := string([]byte{byte(i)})
		switch s {
		case `\`, ".", "[":
			continue
		case "^":
			wantTree(t, s, start)
			wantTree(t, s+"a", cat(start, a))
		case "$":
			wantTree(t, s, end)
			wantTree(t, s+"a", cat(one(s), a))
		default:
			wantTree(t, s, one(s))
			wantTree(t, s+"a", cat(one(s), a))
		}
		if s != "$" {
			wantTree(t, "^a"+s+"^", map[bool]tree.Node{false: cat(start, a, one(s), one("^")), true: cat(start, rep(a, 0, -1), one("^"))}[s == "*"])
		}
	}
	wantTree(t, "é", cat(one("\xc3"), one("\xa9")))
	wantTree(t, "(a)+?{1}", cat(one("("), a, one(")"), one("+"), one("?"), one("{"), one("1"), one("}")))
	wantTree(t, "a]", cat(a, one("]")))
	wantTree(t, "a\n\x00\xff", cat(a, one("\n"), one("\x00"), one("\xff")))
}

// P4.1: a point is any byte, also the byte A and those above 7F.
func TestPoint(t *testing.T) {
	all := bytesOf(func(byte) bool { return true })
	wantTree(t, ".", all)
	wantTree(t, "a.*.", cat(a, rep(all, 0, -1), all))
	wantTree(t, `\.`, one("."))
}

// P4.1: each byte behind a backslash, at the front of a branch and behind an atom.
func TestEachByteBehindBackslash(t *testing.T) {
	letters := map[byte]tree.Node{'t': one("\t"), 'w': bytesOf(isWord), 'W': bytesOf(func(b byte) bool { return !isWord(b) }), 's': bytesOf(isSpace), 'S': bytesOf(func(b byte) bool { return !isSpace(b) })}
	for i := range 256 {
		s := string([]byte{'\\', byte(i)})
		letter, marked := letters[byte(i)]
		switch {
		case strings.Contains("(){|+?", s[1:]):
		case '1' <= i && i <= '9':
			wantErrorOnce(t, "a"+s, 1, api.ErrBack)
		case i == 'n':
			wantTree(t, s, one("\n"))
			wantTree(t, "a"+s+"*", cat(a, rep(one("\n"), 0, -1)))
		case marked:
			wantTree(t, s, letter, mark(0, s))
			wantTree(t, "a"+s+"*"+s, cat(a, rep(letter, 0, -1), letter), mark(1, s), mark(4, s))
		case isPunct(byte(i)):
			wantTree(t, s, one(s[1:]))
			wantTree(t, "a"+s+"*"+s, cat(a, rep(one(s[1:]), 0, -1), one(s[1:])))
		default:
			wantError(t, s, 0, api.ErrForm)
			wantError(t, "a"+s+"*", 1, api.ErrForm)
			wantErrorOnce(t, `\(\n`+s, 4, api.ErrForm)
		}
	}
}

// P4.1: ^ is Start at the beginning of a branch, and an atom elsewhere; behind it there is the front of the branch.
func TestCaret(t *testing.T) {
	wantTree(t, "^", start)
	wantTree(t, "^a", cat(start, a))
	wantTree(t, "a^", cat(a, one("^")))
	wantTree(t, "a^b", cat(a, one("^"), b))
	wantTree(t, "^^", cat(start, one("^")))
	wantTree(t, "^^*", cat(start, rep(one("^"), 0, -1)))
	wantTree(t, "a^*", cat(a, rep(one("^"), 0, -1)))
	wantTree(t, "*^", cat(one("*"), one("^")))
	wantTree(t, `\^a`, cat(one("^"), a))
	wantTree(t, `^a\|^b`, alt(cat(start, a), cat(start, b)), mark(2, `\|`))
	wantTree(t, `\(^a\)^`, cat(group(1, cat(start, a)), one("^")))
	wantTree(t, `a\(^\)`, cat(a, group(1, start)))
	wantTree(t, `^\(^a\|b^\)`, cat(start, group(1, alt(cat(start, a), cat(b, one("^"))))), mark(5, `\|`))
	wantTree(t, `a\{2\}^`, cat(rep(a, 2, 2), one("^")))
}

// P4.1: $ is End right ahead of the end of the text, of a \) or of a \| , and an atom elsewhere.
func TestDollar(t *testing.T) {
	wantTree(t, "$", end)
	wantTree(t, "a$", cat(a, end))
	wantTree(t, "$a", cat(one("$"), a))
	wantTree(t, "a$b", cat(a, one("$"), b))
	wantTree(t, "^$", cat(start, end))
	wantTree(t, "$$", cat(one("$"), end))
	wantTree(t, "$^", cat(one("$"), one("^")))
	wantTree(t, "$*", rep(one("$"), 0, -1))
	wantTree(t, "a$*", cat(a, rep(one("$"), 0, -1)))
	wantTree(t, "a*$", cat(rep(a, 0, -1), end))
	wantTree(t, "*$", cat(one("*"), end))
	wantTree(t, `$\{2\}$`, cat(rep(one("$"), 2, 2), end))
	wantTree(t, `$\+`, rep(one("$"), 1, -1), mark(1, `\+`))
	wantTree(t, `\$`, one("$"))
	wantTree(t, `a\\$`, cat(a, one(`\`), end))
	wantTree(t, `$\\)`, cat(one("$"), one(`\`), one(")")))
	wantTree(t, `$|`, cat(one("$"), one("|")))
	wantTree(t, `$\n`, cat(one("$"), one("\n")))
	wantTree(t, `a$\|b$`, alt(cat(a, end), cat(b, end)), mark(2, `\|`))
	wantTree(t, `$\|$`, alt(end, end), mark(1, `\|`))
	wantTree(t, `\(a$\)$`, cat(group(1, cat(a, end)), end))
	wantTree(t, `$\(a$b\|$\)b`, cat(one("$"), group(1, alt(cat(a, one("$"), b), end)), b), mark(6, `\|`))
	wantTree(t, `$\(\)`, cat(one("$"), group(1, empty)))
}

// P4.1: a * at the front of a branch, also behind ^ there, stands for itself, and elsewhere repeats.
func TestStar(t *testing.T) {
	star := one("*")
	wantTree(t, "*", star)
	wantTree(t, "**", rep(star, 0, -1))
	wantTree(t, "***", rep(rep(star, 0, -1), 0, -1))
	wantTree(t, "^*", cat(start, star))
	wantTree(t, "^**a", cat(start, rep(star, 0, -1), a))
	wantTree(t, `a\|*b`, alt(a, cat(star, b)), mark(1, `\|`))
	wantTree(t, `\(*a\)`, group(1, cat(star, a)))
	wantTree(t, `\(^*\)*`, rep(group(1, cat(start, star)), 0, -1))
	wantTree(t, `*\{2\}`, rep(star, 2, 2))
	wantTree(t, `*\+`, rep(star, 1, -1), mark(1, `\+`))
	wantTree(t, `\**`, rep(star, 0, -1))
	wantTree(t, "a**", rep(rep(a, 0, -1), 0, -1))
	wantTree(t, "ab*c", cat(a, rep(b, 0, -1), c))
	wantTree(t, "*^*", cat(star, rep(one("^"), 0, -1)))
}

// P4.1: repetitions, one behind the other, each of all that stands ahead of it in the piece, whatever the atom is.
func TestRepetitions(t *testing.T) {
	wantTree(t, `a\+b\?`, cat(rep(a, 1, -1), rep(b, 0, 1)), mark(1, `\+`), mark(4, `\?`))
	wantTree(t, `a*\+\?\{2\}\{3,\}\{4,5\}b`, cat(rep(rep(rep(rep(rep(rep(a, 0, -1), 1, -1), 0, 1), 2, 2), 3, -1), 4, 5), b), mark(2, `\+`), mark(4, `\?`))
	for atom, n := range map[string]tree.Node{"a": a, ".": bytesOf(func(byte) bool { return true }), "[b-d]": one("bcd"), `\n`: one("\n"), `\*`: one("*"), `\}`: one("}"), `\(a\|b\)`: group(1, alt(a, b)), `\(^$\)`: group(1, cat(start, end)), `\(a*\)\1`: back(1), "]": one("]"), "{": one("{"), "\\\\": one(`\`)} {
		for word, bounds := range map[string][2]int{"*": {0, -1}, `\+`: {1, -1}, `\?`: {0, 1}, `\{0\}`: {0, 0}, `\{7,\}`: {7, -1}, `\{1,255\}`: {1, 255}} {
			got, _, place, e := Parse(atom + word)
			if parts, ok := got.(tree.Cat); ok {
				got = parts.Parts[1]
			}
			if e != api.OK || !reflect.DeepEqual(got, rep(n, bounds[0], bounds[1])) {
				t.Errorf("P4.1: Parse(%q): %#v, %d at %d", atom+word, got, e, place)
			}
		}
	}
}

// P4.1: intervals: of 1 to 3 digits each, at most MaxBound, the first at most the second.
func TestIntervals(t *testing.T) {
	for m := range 1002 {
		s := fmt.Sprintf(`a\{%d\}`, m)
		least := fmt.Sprintf(`a\{%d,\}`, m)
		if m <= api.MaxBound {
			wantOnce(t, s, rep(a, m, m), nil)
			wantOnce(t, least, rep(a, m, -1), nil)
		} else {
			wantErrorOnce(t, s, 1, api.ErrBound)
			wantErrorOnce(t, least, 1, api.ErrBound)
		}
		for _, n := range []int{0, 1, 2, 9, 10, 99, 100, 254, 255, 256, 999, 1000, m - 1, m, m + 1} {
			if n < 0 {
				continue
			}
			s := fmt.Sprintf(`a\{%d,%d\}`, m, n)
			if m <= n && n <= api.MaxBound {
				wantOnce(t, s, rep(a, m, n), nil)
			} else {
				wantErrorOnce(t, s, 1, api.ErrBound)
			}
		}
	}
	wantTree(t, `a\{00\}`, rep(a, 0, 0))
	wantTree(t, `a\{000,007\}`, rep(a, 0, 7))
	wantTree(t, `a\{010\}*`, rep(rep(a, 10, 10), 0, -1))
	wantTree(t, `a\{2\}3`, cat(rep(a, 2, 2), one("3")))
	wantTree(t, `a\{2,255\}\}`, cat(rep(a, 2, 255), one("}")))
}

// P4.1: a \{ behind an atom that is no repetition is told at its place, whatever follows.
func TestNoIntervals(t *testing.T) {
	for _, s := range []string{
		``, `\}`, `,\}`, `,2\}`, `2`, `2,`, `2,3`, `2\`, `2,\`, `2}`, `2,3}`, `2,}`, `2a\}`, `a\}`, `2,a\}`, ` 2\}`, `2 \}`, `2, 3\}`, `2,,\}`, `2,3,\}`, `2,3,4\}`,
		`-1\}`, `+1\}`, `1.\}`, `0001\}`, `0000\}`, `1,0001\}`, `0001,\}`, `1,0000\}`, `3,2\}`, `1,0\}`, `255,254\}`, `256\}`, `256,\}`, `0,256\}`, `256,255\}`, `256,256\}`, `999\}`, `1000\}`,
		`2\)`, `2\|`, `2,\)`, `\{2\}\}`, `2\{3\}`, "2\n\\}", "٣\\}", "²\\}", "\xff\\}", "2\x00\\}", `2\\}`, `18446744073709551617\}`, `2,18446744073709551618\}`, `9223372036854775808\}`, strings.Repeat("0", 200) + `1\}`,
	} {
		wantErrorOnce(t, `a\{`+s, 1, api.ErrBound)
		wantErrorOnce(t, `\(x[y]\{`+s, 6, api.ErrBound)
		wantErrorOnce(t, `a\+\|*\{`+s, 6, api.ErrBound)
		wantErrorOnce(t, `a\{2\}\{`+s, 6, api.ErrBound)
	}
}

// P4.1: \{ , \+ and \? at the front of a branch, also behind ^ there: told at their places.
func TestNothingToRepeat(t *testing.T) {
	for _, word := range []string{`\{2\}`, `\{2,\}`, `\{2,3\}`, `\{`, `\{3,2\}`, `\{256\}`, `\+`, `\?`, `\+*`, `\?\q`} {
		wantError(t, word, 0, api.ErrRepeat)
		wantError(t, "^"+word, 1, api.ErrRepeat)
		wantError(t, `a\|`+word, 3, api.ErrRepeat)
		wantError(t, `a\|^`+word, 4, api.ErrRepeat)
		wantErrorOnce(t, `\(`+word+`\)`, 2, api.ErrRepeat)
		wantErrorOnce(t, `\(^`+word+`\)`, 3, api.ErrRepeat)
		wantErrorOnce(t, `a\(b\|`+word, 6, api.ErrRepeat)
	}
	wantTree(t, `^^\+`, cat(start, rep(one("^"), 1, -1)), mark(2, `\+`))
}

// P4.1: bracket expressions are atoms: what stands in them neither ends a branch nor repeats nor is marked.
func TestBrackets(t *testing.T) {
	wantTree(t, "[a]", a)
	wantTree(t, "[a-c]b", cat(one("abc"), b))
	wantTree(t, "[]a]", one("]a"))
	wantTree(t, "[^]a]*", rep(bytesOf(func(b byte) bool { return b != ']' && b != 'a' }), 0, -1))
	wantTree(t, `[\|][\)][\n]`, cat(one(`\|`), one(`\)`), one(`\n`)))
	wantTree(t, `[\(][\w][\]a`, cat(one(`\(`), one(`\w`), one(`\`), a))
	wantTree(t, "[*][$][.][^^]", cat(one("*"), one("$"), one("."), bytesOf(func(b byte) bool { return b != '^' })))
	wantTree(t, "[[:digit:]x][[=a=]][[.-.]]", cat(one("0123456789x"), a, one("-")))
	wantTree(t, "$[a]$", cat(one("$"), a, end))
	wantTree(t, `\[a]`, cat(one("["), a, one("]")))
	wantTree(t, "[\x00-\xff]", bytesOf(func(byte) bool { return true }))
	wantTree(t, "[^\x00-\xff]", one(""))
}

// P4.1: chapter 2's errors, at their places in the whole text.
func TestBracketErrors(t *testing.T) {
	for _, s := range []string{"", "a", "^", "]", "[:", "[:alpha:", "[=a", "[.a.]", "a-", "z-a]", "b[:x:]]", "ab[:digit:]-z]", "[.ab.]]", "a-[=b=]]", "[:x"} {
		_, place, e := bracket.Parse(s, 0)
		if e == api.OK {
			t.Fatalf("%q is no wrong bracket expression", s)
		}
		for _, ahead := range []string{"[", "a[", "^[", `\([`, `a\{2\}[`, `\w\|\(x[`, "[z][", "[[][", `\\[`} {
			wantError(t, ahead+s, len(ahead)+place, e)
		}
	}
	wantError(t, "[a", 2, api.ErrEnd)
	wantError(t, "x[z-a]", 2, api.ErrRange)
	wantError(t, "[[:x:]]", 1, api.ErrClass)
}

// P4.1: groups are numbered by their \( , and told as closed by the \) that belongs to them.
func TestGroups(t *testing.T) {
	wantTree(t, `\(a\)`, group(1, a))
	wantTree(t, `\(a\)\(b\)`, cat(group(1, a), group(2, b)))
	wantTree(t, `x\(a\(b\)\)\(c\)\2`, cat(one("x"), group(1, cat(a, group(2, b))), group(3, c), back(2)))
	wantTree(t, `\(\(\(a\)\)\)\(\)`, cat(group(1, group(2, group(3, a))), group(4, empty)))
	wantTree(t, `\(a\|\(b\)\)\|\(c\)`, alt(group(1, alt(a, group(2, b))), group(3, c)), mark(3, `\|`), mark(12, `\|`))
	wantTree(t, `\(ab\)c`, cat(group(1, cat(a, b)), c))
	wantTree(t, `(a)`, cat(one("("), a, one(")")))
	var parts []tree.Node
	for i := range 50 {
		parts = append(parts, group(i+1, a))
	}
	wantTree(t, strings.Repeat(`\(a\)`, 48), cat(parts[:48]...))
	wantOnce(t, strings.Repeat(`\(a\)`, 50), cat(parts...), nil)
}

// P4.1: groups stand in one another at most MaxNest deep, however many there are in all.
func TestDeepGroups(t *testing.T) {
	for depth := range 18 {
		s := strings.Repeat(`\(`, depth) + strings.Repeat(`\)`, depth)
		if depth > api.MaxNest {
			wantErrorOnce(t, s, 2*api.MaxNest, api.ErrDeep)
			wantErrorOnce(t, `\(a\)b`+s, 6+2*api.MaxNest, api.ErrDeep)
			wantErrorOnce(t, s[:2*depth], 2*api.MaxNest, api.ErrDeep)
			continue
		}
		node, _, _, e := Parse(s + `\|` + s + s)
		if e != api.OK || tree.Deep(node) != depth || tree.Groups(node) != 3*depth || !tree.Right(node) {
			t.Errorf("P4.1: %d groups in one another: error %d", depth, e)
		}
	}
	deep := strings.Repeat(`\(`, api.MaxNest) + "a" + strings.Repeat(`\)`, api.MaxNest)
	wantErrorOnce(t, deep+deep[:24]+`x\(`, len(deep)+25, api.ErrDeep)
}

// P4.1: a \( without its \) is told when the text has ended, the last one of several; a \) that closes none at once.
func TestGroupErrors(t *testing.T) {
	wantError(t, `\(`, 0, api.ErrGroup)
	wantError(t, `\(a`, 0, api.ErrGroup)
	wantError(t, `a\(b$`, 1, api.ErrGroup)
	wantError(t, `\(a\|b`, 0, api.ErrGroup)
	wantError(t, `\(\(a\)`, 0, api.ErrGroup)
	wantError(t, `\(\(a`, 2, api.ErrGroup)
	wantError(t, `\(a\)\(b\(c\)`, 5, api.ErrGroup)
	wantError(t, `\(a\(b\(c\)`, 3, api.ErrGroup)
	wantError(t, `\(a)`, 0, api.ErrGroup)
	wantError(t, `\([\)]`, 0, api.ErrGroup)
	wantError(t, strings.Repeat(`\(`, api.MaxNest), 2*api.MaxNest-2, api.ErrGroup)
	wantError(t, `\)`, 0, api.ErrGroup)
	wantError(t, `a\)`, 1, api.ErrGroup)
	wantError(t, `^\)`, 1, api.ErrGroup)
	wantError(t, `a$\)`, 2, api.ErrGroup)
	wantError(t, `a*\)b`, 2, api.ErrGroup)
	wantError(t, `a\|\)`, 3, api.ErrGroup)
	wantError(t, `\(a\)\)`, 5, api.ErrGroup)
	wantError(t, `\(a\)\)\q[`, 5, api.ErrGroup)
	wantError(t, `(a\)`, 2, api.ErrGroup)
}

// P4.1: a backslash and a digit: a Back, if that group was closed ahead.
func TestBacks(t *testing.T) {
	wantTree(t, `\(a\)\1`, cat(group(1, a), back(1)))
	wantTree(t, `\(a\)\1*\1`, cat(group(1, a), rep(back(1), 0, -1), back(1)))
	wantTree(t, `\(a\)\|\1`, alt(group(1, a), back(1)), mark(5, `\|`))
	wantTree(t, `\(\(a\)\2\)\1`, cat(group(1, cat(group(2, a), back(2))), back(1)))
	wantTree(t, `\(a\)*\(\1\)`, cat(rep(group(1, a), 0, -1), group(2, back(1))))
	wantTree(t, `\(a\)\12`, cat(group(1, a), back(1), one("2")))
	wantErrorOnce(t, `\(a\1\)`, 3, api.ErrBack)
	wantErrorOnce(t, `\(\(a\)\1\)`, 7, api.ErrBack)
	wantErrorOnce(t, `\(\(a\2\)\)`, 5, api.ErrBack)
	wantErrorOnce(t, `\(a\)\(b\2\)`, 8, api.ErrBack)
	wantErrorOnce(t, `\1\(a\)`, 0, api.ErrBack)
	wantErrorOnce(t, `\1`, 0, api.ErrBack)
	wantErrorOnce(t, `a\(b\)\2*`, 6, api.ErrBack)
	wantErrorOnce(t, `(a)\1`, 3, api.ErrBack)
	wantErrorOnce(t, `\(a\|\1\)`, 5, api.ErrBack)
	wantError(t, `\0`, 0, api.ErrForm)
	wantError(t, `\(a\)\0`, 5, api.ErrForm)
	for groups := range 12 {
		ahead := strings.Repeat(`\(a\)`, groups)
		for digit := 1; digit <= 9; digit++ {
			s := fmt.Sprintf(`%sb\%d`, ahead, digit)
			if digit > groups {
				wantErrorOnce(t, s, len(s)-2, api.ErrBack)
				continue
			}
			node, _, _, e := Parse(s)
			if parts, ok := node.(tree.Cat); e != api.OK || !ok || parts.Parts[groups+1] != back(digit) {
				t.Errorf("P4.1: Parse(%q): %#v, %d", s, node, e)
			}
		}
	}
}

// P4.1: the marks, each at the place of its backslash, rising; what isn't marked has none.
func TestMarks(t *testing.T) {
	wantTree(t, `\w\W\s\S\t`, cat(bytesOf(isWord), bytesOf(func(b byte) bool { return !isWord(b) }), bytesOf(isSpace), bytesOf(func(b byte) bool { return !isSpace(b) }), one("\t")),
		mark(0, `\w`), mark(2, `\W`), mark(4, `\s`), mark(6, `\S`), mark(8, `\t`))
	wantTree(t, `\(a\+\|b\)\?\t\{2\}c*`, cat(rep(group(1, alt(rep(a, 1, -1), b)), 0, 1), rep(one("\t"), 2, 2), rep(c, 0, -1)),
		mark(3, `\+`), mark(5, `\|`), mark(10, `\?`), mark(12, `\t`))
	wantTree(t, `\n\.\{1,2\}\(a\)\1^*$`, cat(one("\n"), rep(one("."), 1, 2), group(1, a), back(1), rep(one("^"), 0, -1), end))
	wantTree(t, "\t+?|", cat(one("\t"), one("+"), one("?"), one("|")))
}

// P4.1: a backslash at the end of the text is told at its place.
func TestTail(t *testing.T) {
	for _, ahead := range []string{"", "a", "^", "a$", "a*", `a\|`, `\\`, `\(`, `\(a`, `\(a\|^`, `a\{2\}`, `[\]`} {
		wantError(t, ahead+`\`, len(ahead), api.ErrTail)
	}
}

// P4.1: more bytes than MaxRegex are told ahead of all else; so many are none too many.
func TestLength(t *testing.T) {
	for _, s := range []string{"a", `\q`, "[", `\(`, `\)`, `\+`, `\{`, `\1`, "\xff", `\`} {
		for _, length := range []int{api.MaxRegex + 1, api.MaxRegex + 2, 4000, 1 << 20} {
			wantErrorOnce(t, strings.Repeat(s, length)[:length], api.MaxRegex, api.ErrLong)
		}
	}
	var parts []tree.Node
	for range api.MaxRegex {
		parts = append(parts, a)
	}
	wantOnce(t, strings.Repeat("a", api.MaxRegex), cat(parts...), nil)
	wantOnce(t, strings.Repeat("a", api.MaxRegex-1), cat(parts[1:]...), nil)
	wantErrorOnce(t, strings.Repeat("a", api.MaxRegex-1)+`\`, api.MaxRegex-1, api.ErrTail)
	wantErrorOnce(t, strings.Repeat("a", api.MaxRegex-1)+`[`, api.MaxRegex, api.ErrEnd)
}

// P4.1: of several errors the first is told, as the text is read from the left: that of a group that isn't closed behind all others.
func TestFirstOfSeveralErrors(t *testing.T) {
	wantError(t, `\(a\q`, 3, api.ErrForm)
	wantError(t, `\(a\`, 3, api.ErrTail)
	wantError(t, `\(a[b`, 5, api.ErrEnd)
	wantError(t, `\(a[z-b]`, 4, api.ErrRange)
	wantError(t, `\(a\{`, 3, api.ErrBound)
	wantError(t, `\(\(a\9`, 5, api.ErrBack)
	wantError(t, `\(\+`, 2, api.ErrRepeat)
	wantError(t, `\q\(`, 0, api.ErrForm)
	wantError(t, `\q[`, 0, api.ErrForm)
	wantError(t, `[\q`, 3, api.ErrEnd)
	wantError(t, `\+\{`, 0, api.ErrRepeat)
	wantError(t, `a\{\+`, 1, api.ErrBound)
	wantError(t, `\9\)`, 0, api.ErrBack)
	wantError(t, `\)\9`, 0, api.ErrGroup)
	wantError(t, strings.Repeat(`\(`, 13)+`\q`, 24, api.ErrDeep)
	wantError(t, strings.Repeat(`\(`, 12)+`\q\(`, 24, api.ErrForm)
}

// level is what a second reading of the chapter knows of the text, or of a group that is open.
type level struct {
	opened, number   int
	branches, pieces []tree.Node
	state            int
}

// Where a level's reading is within its branch.
const (
	begins = iota
	front
	behindAtom
	behindEnd
)

func (l *level) add(n tree.Node, state int) {
	l.pieces = append(l.pieces, n)
	l.state = state
}

// endBranch makes one branch of all pieces.
func (l *level) endBranch() {
	branch := empty
	switch len(l.pieces) {
	case 0:
	case 1:
		branch = l.pieces[0]
	default:
		branch = tree.Cat{Parts: l.pieces}
	}
	l.branches = append(l.branches, branch)
	l.pieces, l.state = nil, begins
}

// whole makes one regex of all branches.
func (l *level) whole() tree.Node {
	l.endBranch()
	if len(l.branches) == 1 {
		return l.branches[0]
	}
	return tree.Alt{Parts: l.branches}
}

// repeat makes a Rep of the last piece.
func (l *level) repeat(least, most int) {
	last := len(l.pieces) - 1
	l.pieces[last] = rep(l.pieces[last], least, most)
}

var (
	intervalShape = regexp.MustCompile(`^\\\{([0-9]{1,3})(,?)([0-9]{0,3})\\\}`)
	endShape      = regexp.MustCompile(`^(\\\)|\\\||$)`)
)

// intervalOf tells of the interval at the beginning of a text: its length (0: there is none), and its bounds.
func intervalOf(s string) (length, least, most int) {
	m := intervalShape.FindStringSubmatch(s)
	if m == nil || m[2] == "" && m[3] != "" {
		return 0, 0, 0
	}
	fmt.Sscanf(m[1], "%d", &least)
	most = least
	if m[2] != "" {
		most = -1
		fmt.Sscanf(m[3], "%d", &most)
	}
	if least > 255 || most > 255 || most >= 0 && most < least {
		return 0, 0, 0
	}
	return len(m[0]), least, most
}

// again is a second reading of the chapter: sign by sign, with a list of the open groups.
func again(s string) (tree.Node, []api.Mark, int, api.Errno) {
	wrong := func(at int, e api.Errno) (tree.Node, []api.Mark, int, api.Errno) { return nil, nil, at, e }
	var marks []api.Mark
	var closed []int
	groups := 0
	levels := []*level{{}}
	for at := 0; at < len(s); {
		l := levels[len(levels)-1]
		sign := s[at:min(at+1, len(s))]
		if sign == `\` {
			sign = s[at:min(at+2, len(s))]
		}
		next := at + len(sign)
		switch sign {
		case `\|`, `\+`, `\?`, `\t`, `\w`, `\W`, `\s`, `\S`:
			marks = append(marks, mark(at, sign))
		}
		switch {
		case sign == `\`:
			return wrong(at, api.ErrTail)
		case sign == `\|`:
			l.endBranch()
		case sign == `\(`:
			if len(levels) == 13 {
				return wrong(at, api.ErrDeep)
			}
			groups++
			levels = append(levels, &level{opened: at, number: groups})
		case sign == `\)`:
			if len(levels) == 1 {
				return wrong(at, api.ErrGroup)
			}
			levels = levels[:len(levels)-1]
			levels[len(levels)-1].add(group(l.number, l.whole()), behindAtom)
			closed = append(closed, l.number)
		case sign == "^" && l.state == begins:
			l.add(start, front)
		case sign == "$" && endShape.MatchString(s[next:]):
			l.add(end, behindEnd)
		case sign == "*" && l.state == behindAtom:
			l.repeat(0, -1)
		case (sign == `\+` || sign == `\?` || sign == `\{`) && l.state != behindAtom:
			return wrong(at, api.ErrRepeat)
		case sign == `\+`:
			l.repeat(1, -1)
		case sign == `\?`:
			l.repeat(0, 1)
		case sign == `\{`:
			length, least, most := intervalOf(s[at:])
			if length == 0 {
				return wrong(at, api.ErrBound)
			}
			l.repeat(least, most)
			next = at + length
		case sign == "[":
			bytes, place, e := bracket.Parse(s, next)
			if e != api.OK {
				return wrong(place, e)
			}
			l.add(set(bytes), behindAtom)
			next = place
		case len(sign) == 1 && sign != ".":
			l.add(one(sign), behindAtom)
		case sign[1:] >= "1" && sign[1:] <= "9" && sign != ".":
			if !slices.Contains(closed, int(sign[1]-'0')) {
				return wrong(at, api.ErrBack)
			}
			l.add(back(int(sign[1]-'0')), behindAtom)
		default:
			n := atomAgain(sign)
			if n == nil {
				return wrong(at, api.ErrForm)
			}
			l.add(n, behindAtom)
		}
		at = next
	}
	if last := levels[len(levels)-1]; len(levels) > 1 {
		return wrong(last.opened, api.ErrGroup)
	}
	return levels[0].whole(), marks, 0, api.OK
}

// atomAgain is what one sign stands for; nil, if it can't stand there.
func atomAgain(sign string) tree.Node {
	switch sign {
	case ".":
		return bytesOf(func(byte) bool { return true })
	case `\n`:
		return one("\n")
	case `\t`:
		return one("\t")
	case `\w`:
		return bytesOf(isWord)
	case `\W`:
		return bytesOf(func(b byte) bool { return !isWord(b) })
	case `\s`:
		return bytesOf(isSpace)
	case `\S`:
		return bytesOf(func(b byte) bool { return !isSpace(b) })
	}
	if isPunct(sign[1]) {
		return one(sign[1:])
	}
	return nil
}

// wantAgain holds Parse of a text against the second reading; it tells whether the text is a regex.
func wantAgain(t *testing.T, s string) bool {
	t.Helper()
	node, marks, at, e := Parse(s)
	want, marked, place, wrong := again(s)
	if e != wrong || at != place || !slices.Equal(marks, marked) || !reflect.DeepEqual(node, want) {
		t.Fatalf("P4.1: Parse(%q): %#v, %v, %d at %d; not %#v, %v, %d at %d", s, node, marks, e, at, want, marked, wrong, place)
	}
	if e == api.OK && !tree.Right(node) {
		t.Fatalf("P4.1: Parse(%q): a tree that isn't right", s)
	}
	return e == api.OK
}

// wantAllAgain holds Parse of all texts of up to so many parts against the second reading.
func wantAllAgain(t *testing.T, parts []string, most int) {
	t.Helper()
	right := 0
	texts := []string{""}
	for range most {
		var longer []string
		for _, s := range texts {
			for _, part := range parts {
				longer = append(longer, s+part)
			}
		}
		for _, s := range longer {
			if wantAgain(t, s) {
				right++
			}
		}
		texts = longer
	}
	if right == 0 {
		t.Error("no text was a regex")
	}
}

// P4.1 and P7: of all short texts of the bytes, and of the parts, that matter the call answers as a second reading does.
func TestAllShortTexts(t *testing.T) {
	wantAgain(t, "")
	wantAllAgain(t, strings.Split(`a\(){}1,*^$|`, ""), 4)
	wantAllAgain(t, strings.Split(`a\[]+?.n0`, ""), 4)
	wantAllAgain(t, []string{"a", "*", "^", "$", `\(`, `\)`, `\|`, `\+`, `\{2\}`, `\1`}, 5)
	wantAllAgain(t, []string{`a\{`, "0", "1", "5", "2", ",", `\}`}, 6)
}

// numbers tells numbers by a short rule of remainders.
type numbers struct{ x uint32 }

func (r *numbers) next(n int) int {
	r.x ^= r.x << 13
	r.x ^= r.x >> 17
	r.x ^= r.x << 5
	return int(r.x % uint32(n))
}

// P4.1 and P7: the same of longer texts that are put together of parts.
func TestTextsOfParts(t *testing.T) {
	parts := []string{"a", "b", ".", "*", "^", "$", "(", ")", "|", "+", "?", "{", "}", ",", "0", "9", `\(`, `\)`, `\(`, `\)`, `\|`, `\1`, `\2`, `\9`, `\0`, `\n`, `\t`, `\w`, `\W`, `\s`, `\S`, `\+`, `\?`, `\{`, `\}`, `\{2\}`, `\{3,\}`, `\{0,255\}`, `\{5,4\}`, `\.`, `\\`, `\/`, `\q`, `\`, "[a-c]", "[^]x]", "[[:digit:]]", "[", "]", "[z-a]", "\n", "\x00", "\xff", "é"}
	r := &numbers{2463534242}
	right := 0
	for range 60000 {
		var s strings.Builder
		for range r.next(12) {
			s.WriteString(parts[r.next(len(parts))])
		}
		if wantAgain(t, s.String()) {
			right++
		}
	}
	if right < 2000 {
		t.Errorf("only %d texts were regexes", right)
	}
}

// maker makes regexes: texts, and their trees and marks beside them.
type maker struct {
	numbers
	text   strings.Builder
	marks  []api.Mark
	groups int
	closed []int
}

func (m *maker) marked(word string) {
	m.marks = append(m.marks, mark(m.text.Len(), word))
	m.text.WriteString(word)
}

func (m *maker) regex(depth int) tree.Node {
	branches := []tree.Node{m.branch(depth)}
	for m.next(4) == 0 {
		m.marked(`\|`)
		branches = append(branches, m.branch(depth))
	}
	if len(branches) == 1 {
		return branches[0]
	}
	return tree.Alt{Parts: branches}
}

func (m *maker) branch(depth int) tree.Node {
	var pieces []tree.Node
	if m.next(4) == 0 {
		m.text.WriteString("^")
		pieces = append(pieces, start)
	}
	for range m.next(5) {
		piece := m.atom(depth)
		for m.next(3) == 0 {
			piece = m.repetition(piece)
		}
		pieces = append(pieces, piece)
	}
	if m.next(4) == 0 {
		m.text.WriteString("$")
		pieces = append(pieces, end)
	}
	switch len(pieces) {
	case 0:
		return empty
	case 1:
		return pieces[0]
	}
	return tree.Cat{Parts: pieces}
}

func (m *maker) repetition(of tree.Node) tree.Node {
	least := m.next(256)
	most := least + m.next(256-least)
	switch m.next(6) {
	case 0:
		m.text.WriteString("*")
		return rep(of, 0, -1)
	case 1:
		m.marked(`\+`)
		return rep(of, 1, -1)
	case 2:
		m.marked(`\?`)
		return rep(of, 0, 1)
	case 3:
		fmt.Fprintf(&m.text, `\{%d\}`, least)
		return rep(of, least, least)
	case 4:
		fmt.Fprintf(&m.text, `\{%0*d,\}`, 1+m.next(3), least)
		return rep(of, least, -1)
	}
	fmt.Fprintf(&m.text, `\{%d,%0*d\}`, least, 1+m.next(3), most)
	return rep(of, least, most)
}

func (m *maker) atom(depth int) tree.Node {
	switch k := m.next(6); {
	case k == 0 && depth > 0:
		m.groups++
		number := m.groups
		m.text.WriteString(`\(`)
		of := m.regex(depth - 1)
		m.text.WriteString(`\)`)
		m.closed = append(m.closed, number)
		return group(number, of)
	case k == 1 && len(m.closed) > 0 && m.closed[0] <= 9:
		fmt.Fprintf(&m.text, `\%d`, m.closed[0])
		return back(m.closed[0])
	case k == 2:
		m.marked(`\s`)
		return bytesOf(isSpace)
	case k == 3:
		m.text.WriteString("[^]-a]")
		return bytesOf(func(b byte) bool { return b < ']' || 'a' < b })
	}
	b := byte(m.next(256))
	if strings.Contains(`\.[*^$`, string(rune(b))) {
		m.text.WriteByte('\\')
	}
	m.text.WriteByte(b)
	return one(string([]byte{b}))
}

// P4.1: regexes that were made beside their trees are read as these.
func TestMadeRegexes(t *testing.T) {
	r := numbers{88172645}
	made := 0
	for range 8000 {
		m := &maker{numbers: numbers{uint32(1 + r.next(1<<31))}}
		if want := m.regex(4); m.text.Len() <= api.MaxRegex {
			wantOnce(t, m.text.String(), want, m.marks)
			made++
		}
	}
	if made < 4000 {
		t.Errorf("only %d regexes", made)
	}
}

// P8 (R6, R8): what was asked before doesn't matter, nor what became of its answer.
func TestSameAnswersAgain(t *testing.T) {
	texts := []string{`a\+\(b\|\w\)\1`, `\w\(`, "", `\t\|\q`, `x\?`, "[", strings.Repeat("a", 300)}
	var first []string
	for round := range 3 {
		for i, s := range texts {
			node, marks, at, e := Parse(s)
			told := fmt.Sprintf("%#v %v %d %d", node, marks, at, e)
			if round == 0 {
				first = append(first, told)
			} else if told != first[i] {
				t.Errorf("P8 (R8): Parse(%q) differs in round %d", s, round)
			}
			spare := marks[:cap(marks)]
			for j := range spare {
				spare[j] = mark(-1, "gone")
			}
		}
	}
}
