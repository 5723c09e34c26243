package ere

import (
	"fmt"
	"reflect"
	"regexp"
	"slices"
	"strconv"
	"strings"
	"testing"

	"placket/api"
	"placket/bracket"
	"placket/bre"
	"placket/octet"
	"placket/tree"
)

// The call is just that of the chapter (R11).
var _ func(s string) (tree.Node, []api.Mark, int, api.Errno) = Parse

func one(bytes string) tree.Node                  { return tree.One{Set: octet.Of([]byte(bytes)...)} }
func cat(parts ...tree.Node) tree.Node            { return tree.Cat{Parts: parts} }
func alt(parts ...tree.Node) tree.Node            { return tree.Alt{Parts: parts} }
func rep(of tree.Node, least, most int) tree.Node { return tree.Rep{Of: of, Min: least, Max: most} }
func group(n int, of tree.Node) tree.Node         { return tree.Group{Number: n, Of: of} }
func back(n int) tree.Node                        { return tree.Back{Number: n} }
func mark(at int, word string) api.Mark           { return api.Mark{At: at, Word: word} }

var (
	empty, start, end = tree.Node(tree.Empty{}), tree.Node(tree.Start{}), tree.Node(tree.End{})
	a, b, c           = one("a"), one("b"), one("c")
)

// bytesOf is a One of those of the 256 bytes of which a test holds.
func bytesOf(test func(b byte) bool) tree.Node {
	var bytes []byte
	for i := range 256 {
		if test(byte(i)) {
			bytes = append(bytes, byte(i))
		}
	}
	return one(string(bytes))
}

func isWord(b byte) bool {
	return 'a' <= b && b <= 'z' || 'A' <= b && b <= 'Z' || '0' <= b && b <= '9' || b == '_'
}

func isSpace(b byte) bool { return 9 <= b && b <= 0xd || b == 0x20 }

func isPunct(b byte) bool { return 0x21 <= b && b <= 0x7e && (!isWord(b) || b == '_') }

var (
	all      = bytesOf(func(byte) bool { return true })
	word     = bytesOf(isWord)
	notWord  = bytesOf(func(b byte) bool { return !isWord(b) })
	space    = bytesOf(isSpace)
	notSpace = bytesOf(func(b byte) bool { return !isSpace(b) })
)

// wantOnce parses a text: just this tree, which is right, and these marks.
func wantOnce(t *testing.T, s string, want tree.Node, marks ...api.Mark) {
	t.Helper()
	node, told, place, e := Parse(s)
	if e != api.OK || place != 0 {
		t.Errorf("P5.1: Parse(%q): error %d at %d", s, e, place)
		return
	}
	if !reflect.DeepEqual(node, want) {
		t.Errorf("P5.1: Parse(%q): %#v, not %#v", s, node, want)
	}
	if !tree.Right(node) {
		t.Errorf("P5.1: Parse(%q): a tree that isn't right", s)
	}
	if !slices.Equal(told, marks) {
		t.Errorf("P5.1: Parse(%q): marks %v, not %v", s, told, marks)
	}
}

// moved are marks so many bytes farther on.
func moved(marks []api.Mark, by int) []api.Mark {
	var farther []api.Mark
	for _, m := range marks {
		farther = append(farther, mark(m.At+by, m.Word))
	}
	return farther
}

// wantTree parses a text by itself, and as one of two branches; if it has no groups, also as a group.
func wantTree(t *testing.T, s string, want tree.Node, marks ...api.Mark) {
	t.Helper()
	wantOnce(t, s, want, marks...)
	branches := []tree.Node{want}
	if several, ok := want.(tree.Alt); ok {
		branches = several.Parts
	}
	other := cat(one("x"), end, one("y"))
	wantOnce(t, s+"|x$y", alt(append(slices.Clone(branches), other)...), marks...)
	wantOnce(t, "x$y|"+s, alt(append([]tree.Node{other}, branches...)...), moved(marks, 4)...)
	if tree.Groups(want) == 0 {
		wantOnce(t, "("+s+")", group(1, want), moved(marks, 1)...)
		wantOnce(t, "x(()("+s+"))y", cat(one("x"), group(1, cat(group(2, empty), group(3, want))), one("y")), moved(marks, 5)...)
	}
}

// wantErrorOnce parses a text that is wrong: just this error at this place, and nothing beside it.
func wantErrorOnce(t *testing.T, s string, place int, want api.Errno) {
	t.Helper()
	node, marks, at, e := Parse(s)
	if e != want || at != place {
		t.Errorf("P5.1: Parse(%q): error %d at %d, not %d at %d", s, e, at, want, place)
	}
	if node != nil || len(marks) != 0 {
		t.Errorf("P8 (R3): Parse(%q): a tree, or marks, beside an error", s)
	}
}

// wantError parses a text that is wrong by itself, and as a second branch.
func wantError(t *testing.T, s string, place int, want api.Errno) {
	t.Helper()
	wantErrorOnce(t, s, place, want)
	wantErrorOnce(t, `\w^[]]{3}|`+s, place+10, want)
}

// P5.1: the chapter's examples.
func TestExamples(t *testing.T) {
	wantTree(t, "a|(b)+", alt(a, rep(group(1, b), 1, -1)))
	wantError(t, "*a", 0, api.ErrRepeat)
}

// P5.1: branches, the pieces of which are joined, and which are chosen from; one without pieces is Empty.
func TestBranches(t *testing.T) {
	wantTree(t, "", empty)
	wantTree(t, "a", a)
	wantTree(t, "abc", cat(a, b, c))
	wantTree(t, "a|b", alt(a, b))
	wantTree(t, "ab|c|", alt(cat(a, b), c, empty))
	wantTree(t, "|", alt(empty, empty))
	wantTree(t, "||a", alt(empty, empty, a))
	wantTree(t, "a||b", alt(a, empty, b))
	wantTree(t, "a|(b|c)|a", alt(a, group(1, alt(b, c)), a))
	wantTree(t, "()", group(1, empty))
	wantTree(t, "(|)*", rep(group(1, alt(empty, empty)), 0, -1))
	wantTree(t, "a()b", cat(a, group(1, empty), b))
	wantTree(t, `a\|b`, cat(a, one("|"), b))
	wantTree(t, `a\\|b`, alt(cat(a, one(`\`)), b))
}

// P5.1: each byte by itself stands for itself, but \ ^ $ * + ? { | ( ) . [ .
func TestEachByte(t *testing.T) {
	for i := range 256 {
		s := string([]byte{byte(i)})
		if strings.Contains(`\^$*+?{|().[`, s) {
			continue
		}
		wantTree(t, s, one(s))
		wantTree(t, "a"+s+"b", cat(a, one(s), b))
		wantTree(t, "^"+s+"*"+s, cat(start, rep(one(s), 0, -1), one(s)))
	}
	wantTree(t, "é*", cat(one("\xc3"), rep(one("\xa9"), 0, -1)))
	wantTree(t, "]}", cat(one("]"), one("}")))
	wantTree(t, "a\n\x00\xff", cat(a, one("\n"), one("\x00"), one("\xff")))
	wantTree(t, ".", all)
	wantTree(t, "a.*.", cat(a, rep(all, 0, -1), all))
}

// P5.1: each byte behind a backslash, at the front of a branch and behind an atom.
func TestEachByteBehindBackslash(t *testing.T) {
	letters := map[byte]tree.Node{'t': one("\t"), 'w': word, 'W': notWord, 's': space, 'S': notSpace}
	for i := range 256 {
		s := string([]byte{'\\', byte(i)})
		letter, marked := letters[byte(i)]
		switch {
		case '1' <= i && i <= '9':
			wantError(t, s, 0, api.ErrBack)
			wantError(t, "a"+s, 1, api.ErrBack)
		case i == 'n':
			wantTree(t, s, one("\n"))
			wantTree(t, "a"+s+"*", cat(a, rep(one("\n"), 0, -1)))
		case marked:
			wantTree(t, s, letter, mark(0, s))
			wantTree(t, "^"+s+"*"+s, cat(start, rep(letter, 0, -1), letter), mark(1, s), mark(4, s))
		case isPunct(byte(i)):
			wantTree(t, s, one(s[1:]))
			wantTree(t, "a"+s+"+"+s, cat(a, rep(one(s[1:]), 1, -1), one(s[1:])))
		default:
			wantError(t, s, 0, api.ErrForm)
			wantError(t, "a"+s+"*", 1, api.ErrForm)
			wantError(t, `(\n`+s, 3, api.ErrForm)
		}
	}
}

// P5.1: ^ and $ are Start and End wherever they stand; the front is right behind them.
func TestAnchors(t *testing.T) {
	wantTree(t, "^", start)
	wantTree(t, "$", end)
	wantTree(t, "^a$", cat(start, a, end))
	wantTree(t, "a^b$c", cat(a, start, b, end, c))
	wantTree(t, "$^", cat(end, start))
	wantTree(t, "^^$$", cat(start, start, end, end))
	wantTree(t, "a*^b+$", cat(rep(a, 0, -1), start, rep(b, 1, -1), end))
	wantTree(t, "^a|b$|^$", alt(cat(start, a), cat(b, end), cat(start, end)))
	wantTree(t, "(^)*($)+", cat(rep(group(1, start), 0, -1), rep(group(2, end), 1, -1)))
	wantTree(t, "x(^a$)^", cat(one("x"), group(1, cat(start, a, end)), start))
	wantTree(t, `\^*\$`, cat(rep(one("^"), 0, -1), one("$")))
	wantTree(t, "^(a)$", cat(start, group(1, a), end))
	wantTree(t, "[$^]", one("^$"))
}

// P5.1: repetitions, one behind the other, each of all that stands ahead of it in the piece, whatever the atom is.
func TestRepetitions(t *testing.T) {
	wantTree(t, "a+b?c*", cat(rep(a, 1, -1), rep(b, 0, 1), rep(c, 0, -1)))
	wantTree(t, "ab*c", cat(a, rep(b, 0, -1), c))
	wantTree(t, "a**", rep(rep(a, 0, -1), 0, -1))
	wantTree(t, "a*+?{2}{3,}{4,5}b", cat(rep(rep(rep(rep(rep(rep(a, 0, -1), 1, -1), 0, 1), 2, 2), 3, -1), 4, 5), b))
	wantTree(t, "(a|b)*|c+", alt(rep(group(1, alt(a, b)), 0, -1), rep(c, 1, -1)))
	for atom, n := range map[string]tree.Node{"a": a, ".": all, "[b-d]": one("bcd"), `\n`: one("\n"), `\*`: one("*"), "}": one("}"), "]": one("]"), "(a|b)": group(1, alt(a, b)), "(^$)": group(1, cat(start, end)), "()": group(1, empty), `\\`: one(`\`), `\{`: one("{"), `\(`: one("("), "\xff": one("\xff"), "\n": one("\n"), ",": one(",")} {
		for word, bounds := range map[string][2]int{"*": {0, -1}, "+": {1, -1}, "?": {0, 1}, "{0}": {0, 0}, "{7,}": {7, -1}, "{1,255}": {1, 255}, "{00,010}": {0, 10}} {
			wantTree(t, atom+word, rep(n, bounds[0], bounds[1]))
		}
	}
}

// P5.1: intervals: of 1 to 3 digits each, at most MaxBound, the first at most the second.
func TestIntervals(t *testing.T) {
	for m := range 1002 {
		exact, least := fmt.Sprintf("a{%d}", m), fmt.Sprintf("a{%d,}", m)
		if m <= api.MaxBound {
			wantOnce(t, exact, rep(a, m, m))
			wantOnce(t, least, rep(a, m, -1))
		} else {
			wantErrorOnce(t, exact, 1, api.ErrBound)
			wantErrorOnce(t, least, 1, api.ErrBound)
		}
		for _, n := range []int{0, 9, 100, 255, 256, 1000, max(0, m-1), m, m + 1} {
			if s := fmt.Sprintf("a{%d,%d}", m, n); m <= n && n <= api.MaxBound {
				wantOnce(t, s, rep(a, m, n))
			} else {
				wantErrorOnce(t, s, 1, api.ErrBound)
			}
		}
	}
	wantTree(t, "a{2}3", cat(rep(a, 2, 2), one("3")))
	wantTree(t, "a{2,255}}", cat(rep(a, 2, 255), one("}")))
	wantTree(t, `a\{2}`, cat(a, one("{"), one("2"), one("}")))
}

// P5.1: a { behind an atom that is no repetition is told at its place, whatever follows.
func TestNoIntervals(t *testing.T) {
	for _, s := range []string{"", "}", ",}", ",2}", "2", "2,", "2,3", `2\}`, `2,\}`, "2a}", "a}", "2,a}", " 2}", "2 }", "2, 3}", "2,,}", "2,3,}", "-1}", "+1}", "0001}", "1,0001}", "0001,}", "3,2}", "255,254}", "256}", "256,}", "0,256}", "256,256}", "1000}", "2)", "2|", "{2}}", "2{3}", "2\n}", "٣}", "\xff}", "18446744073709551617}", "2,18446744073709551618}"} {
		wantError(t, "a{"+s, 1, api.ErrBound)
		wantError(t, "(x[y]{"+s, 5, api.ErrBound)
		wantError(t, "a+|b*{"+s, 5, api.ErrBound)
		wantError(t, "a{2}{"+s, 4, api.ErrBound)
	}
}

// P5.1: * + ? and { at the front, also behind an anchor wherever it stands: told at their places.
func TestNothingToRepeat(t *testing.T) {
	for _, word := range []string{"*", "+", "?", "{2}", "{2,}", "{2,3}", "{", "{3,2}", "{256}", "**", `?\q`} {
		for _, ahead := range []string{"", "^", "$", "a|", "a||", "a|^", "a^", "a*$", "(", "(^", "(a|", "a(b$", "(a)^", "(a)|", "[^]]$", `\(|`} {
			wantError(t, ahead+word, len(ahead), api.ErrRepeat)
			wantError(t, ahead+word+")", len(ahead), api.ErrRepeat)
		}
	}
}

// P5.1: bracket expressions are atoms: what stands in them neither ends a branch nor repeats nor is marked.
func TestBrackets(t *testing.T) {
	wantTree(t, "[a]", a)
	wantTree(t, "[a-c]b", cat(one("abc"), b))
	wantTree(t, "[]a]", one("]a"))
	wantTree(t, "[^]a]*", rep(bytesOf(func(b byte) bool { return b != ']' && b != 'a' }), 0, -1))
	wantTree(t, "[|][)][(][{]", cat(one("|"), one(")"), one("("), one("{")))
	wantTree(t, `[\w][\]a[*][.]`, cat(one(`\w`), one(`\`), a, one("*"), one(".")))
	wantTree(t, "[[:digit:]x][[=a=]][[.-.]]", cat(one("0123456789x"), a, one("-")))
	wantTree(t, "é[\xc3-\xff]é", cat(one("\xc3"), one("\xa9"), bytesOf(func(b byte) bool { return b >= 0xc3 }), one("\xc3"), one("\xa9")))
	wantTree(t, `\[a]`, cat(one("["), a, one("]")))
	wantTree(t, "[^\x00-\xff]", one(""))
}

// P5.1: chapter 2's errors, at their places in the whole text.
func TestBracketErrors(t *testing.T) {
	for _, s := range []string{"", "a", "^", "]", "[:", "[:alpha:", "[=a", "[.a.]", "a-", "z-a]", "b[:x:]]", "ab[:digit:]-z]", "[.ab.]]", "a-[=b=]]", "[:x", "é"} {
		_, place, e := bracket.Parse(s, 0)
		if e == api.OK {
			t.Fatalf("%q is no wrong bracket expression", s)
		}
		for _, ahead := range []string{"[", "a[", "^[", "([", "a{2}[", `\w|(x[`, "[z][", "[[][", `\\[`, "é["} {
			wantError(t, ahead+s, len(ahead)+place, e)
		}
	}
	wantError(t, "[a", 2, api.ErrEnd)
	wantError(t, "x[z-a]", 2, api.ErrRange)
	wantError(t, "[[:x:]]", 1, api.ErrClass)
}

// P5.1: groups are numbered by their ( , and end with the ) that belongs to them.
func TestGroups(t *testing.T) {
	wantTree(t, "(a)", group(1, a))
	wantTree(t, "(ab)c", cat(group(1, cat(a, b)), c))
	wantTree(t, "x(a(b))(c)", cat(one("x"), group(1, cat(a, group(2, b))), group(3, c)))
	wantTree(t, "(((a)))()", cat(group(1, group(2, group(3, a))), group(4, empty)))
	wantTree(t, "(a|(b))|(c)", alt(group(1, alt(a, group(2, b))), group(3, c)))
	wantTree(t, `\(a\)`, cat(one("("), a, one(")")))
	wantTree(t, `(\))`, group(1, one(")")))
	var parts []tree.Node
	for i := range 83 {
		parts = append(parts, group(i+1, a))
	}
	wantOnce(t, strings.Repeat("(a)", 83), cat(parts...))
}

// P5.1: groups stand in one another at most MaxNest deep, however many there are in all.
func TestDeepGroups(t *testing.T) {
	for depth := range 18 {
		s := strings.Repeat("(", depth) + "a" + strings.Repeat(")", depth)
		if depth > api.MaxNest {
			wantError(t, s, api.MaxNest, api.ErrDeep)
			wantError(t, "(a)b"+s, 4+api.MaxNest, api.ErrDeep)
			wantError(t, s[:depth], api.MaxNest, api.ErrDeep)
			continue
		}
		node, _, _, e := Parse(s + "|" + s + s)
		if e != api.OK || tree.Deep(node) != depth || tree.Groups(node) != 3*depth || !tree.Right(node) {
			t.Errorf("P5.1: %d groups in one another: error %d", depth, e)
		}
	}
	deep := strings.Repeat("(", api.MaxNest) + "a" + strings.Repeat(")", api.MaxNest)
	wantErrorOnce(t, deep+deep[:api.MaxNest]+"x(", len(deep)+api.MaxNest+1, api.ErrDeep)
}

// P5.1: a ( without its ) is told when the text has ended, the last one of several; a ) that closes none at once.
func TestGroupErrors(t *testing.T) {
	for s, place := range map[string]int{
		"(": 0, "(a": 0, "a(b$": 1, "(a|b": 0, "((a)": 0, "((a": 1, "(a)(b(c)": 3, "(a(b(c)": 2, `(a\)`: 0, "([)]": 0, "(^": 0, strings.Repeat("(", api.MaxNest): api.MaxNest - 1,
		")": 0, "a)": 1, "^)": 1, "a$)": 2, "a*)b": 2, "a|)": 2, "(a))": 3, `(a))\q[(`: 3, `\(a)`: 3, "())(": 2, "[(])": 3,
	} {
		wantError(t, s, place, api.ErrGroup)
	}
}

// P5.1: a backslash and a digit: a Back with its mark, if that group was closed ahead.
func TestBacks(t *testing.T) {
	wantTree(t, `(a)\1`, cat(group(1, a), back(1)), mark(3, `\1`))
	wantTree(t, `(a)\1*\1`, cat(group(1, a), rep(back(1), 0, -1), back(1)), mark(3, `\1`), mark(6, `\1`))
	wantTree(t, `(a)|\1`, alt(group(1, a), back(1)), mark(4, `\1`))
	wantTree(t, `((a)\2)\1`, cat(group(1, cat(group(2, a), back(2))), back(1)), mark(4, `\2`), mark(7, `\1`))
	wantTree(t, `(a)*(\1)\2`, cat(rep(group(1, a), 0, -1), group(2, back(1)), back(2)), mark(5, `\1`), mark(8, `\2`))
	wantTree(t, `(a)\12`, cat(group(1, a), back(1), one("2")), mark(3, `\1`))
	for s, place := range map[string]int{`(a\1)`: 2, `((a)\1)`: 4, `((a\2))`: 3, `(a)(b\2)`: 5, `\1(a)`: 0, `a(b)\2*`: 4, `\(a\)\1`: 5, `(a|\1)`: 3} {
		wantError(t, s, place, api.ErrBack)
	}
	wantError(t, `(a)\0`, 3, api.ErrForm)
	for groups := range 12 {
		for digit := 1; digit <= 9; digit++ {
			s := fmt.Sprintf(`%sb\%d`, strings.Repeat("(a)", groups), digit)
			if digit > groups {
				wantError(t, s, len(s)-2, api.ErrBack)
				continue
			}
			node, marks, _, e := Parse(s)
			if parts, ok := node.(tree.Cat); e != api.OK || !ok || parts.Parts[groups+1] != back(digit) || !slices.Equal(marks, []api.Mark{mark(len(s)-2, s[len(s)-2:])}) {
				t.Errorf("P5.1: Parse(%q): %#v, %v, %d", s, node, marks, e)
			}
		}
	}
}

// P5.1: the marks, each at the place of its backslash, rising; what isn't marked has none.
func TestMarks(t *testing.T) {
	wantTree(t, `\w\W\s\S\t`, cat(word, notWord, space, notSpace, one("\t")), mark(0, `\w`), mark(2, `\W`), mark(4, `\s`), mark(6, `\S`), mark(8, `\t`))
	wantTree(t, `é\t+(\w)|\1{2}`, alt(cat(one("\xc3"), one("\xa9"), rep(one("\t"), 1, -1), group(1, word)), rep(back(1), 2, 2)), mark(2, `\t`), mark(6, `\w`), mark(10, `\1`))
	wantTree(t, `\n\.{1,2}(a)+\+\?\|^a*$`, cat(one("\n"), rep(one("."), 1, 2), rep(group(1, a), 1, -1), one("+"), one("?"), one("|"), start, rep(a, 0, -1), end))
}

// P5.1: a backslash at the end of the text is told at its place.
func TestTail(t *testing.T) {
	for _, ahead := range []string{"", "a", "^", "a$", "a*", "a|", `\\`, "(", "(a", "(a|^", "a{2}", `[\]`, "é"} {
		wantError(t, ahead+`\`, len(ahead), api.ErrTail)
	}
}

// P5.1: more bytes than MaxRegex are told ahead of all else; so many are none too many.
func TestLength(t *testing.T) {
	for _, s := range []string{"a", `\q`, "[", "(", ")", "+", "{", `\1`, "\xff", "é", `\`} {
		for _, length := range []int{api.MaxRegex + 1, api.MaxRegex + 2, 4000, 1 << 20} {
			wantErrorOnce(t, strings.Repeat(s, length)[:length], api.MaxRegex, api.ErrLong)
		}
	}
	wantOnce(t, strings.Repeat("a", api.MaxRegex), cat(slices.Repeat([]tree.Node{a}, api.MaxRegex)...))
	wantOnce(t, strings.Repeat("é", api.MaxRegex/2), cat(slices.Repeat([]tree.Node{one("\xc3"), one("\xa9")}, api.MaxRegex/2)...))
	long := strings.Repeat("a", api.MaxRegex-1)
	wantErrorOnce(t, long+`\`, api.MaxRegex-1, api.ErrTail)
	wantErrorOnce(t, long+"[", api.MaxRegex, api.ErrEnd)
	wantErrorOnce(t, long+"(", api.MaxRegex-1, api.ErrGroup)
}

// P5.1: of several errors the first is told, as the text is read from the left: that of a group that isn't closed behind all others.
func TestFirstOfSeveralErrors(t *testing.T) {
	wantError(t, `(a\q`, 2, api.ErrForm)
	wantError(t, `(a\`, 2, api.ErrTail)
	wantError(t, "(a[b", 4, api.ErrEnd)
	wantError(t, "(a[z-b]", 3, api.ErrRange)
	wantError(t, "(a{", 2, api.ErrBound)
	wantError(t, `((a\9`, 3, api.ErrBack)
	wantError(t, "(+", 1, api.ErrRepeat)
	wantError(t, `\q(`, 0, api.ErrForm)
	wantError(t, `[\q`, 3, api.ErrEnd)
	wantError(t, "+{", 0, api.ErrRepeat)
	wantError(t, "a{+", 1, api.ErrBound)
	wantError(t, `\9)`, 0, api.ErrBack)
	wantError(t, `)\9`, 0, api.ErrGroup)
	wantError(t, strings.Repeat("(", 13)+`\q`, 12, api.ErrDeep)
	wantError(t, strings.Repeat("(", 12)+`\q(`, 12, api.ErrForm)
}

// wrong is what the second reading throws.
type wrong struct {
	at int
	e  api.Errno
}

// second is a second reading of the chapter: branch by branch, each group within its own call.
type second struct {
	s      string
	at     int
	marks  []api.Mark
	groups int
	closed []int
}

var intervalShape = regexp.MustCompile(`^\{([0-9]{1,3})(?:(,)([0-9]{0,3}))?\}`)

// again is what the second reading makes of a text.
func again(s string) (n tree.Node, marks []api.Mark, at int, e api.Errno) {
	defer func() {
		if w, ok := recover().(wrong); ok {
			n, marks, at, e = nil, nil, w.at, w.e
		}
	}()
	r := &second{s: s}
	n = r.regex(nil)
	return n, r.marks, 0, api.OK
}

// rest is what is still to be read, up to so many bytes.
func (r *second) rest(most int) string { return r.s[r.at:min(len(r.s), r.at+most)] }

// regex reads branches up to the end of the text, or of the last of the open groups, whose places are given.
func (r *second) regex(opened []int) tree.Node {
	var branches []tree.Node
	for {
		branches = append(branches, r.branch(opened))
		if r.rest(1) != "|" {
			break
		}
		r.at++
	}
	switch {
	case r.rest(1) == "" && len(opened) > 0:
		panic(wrong{opened[len(opened)-1], api.ErrGroup})
	case r.rest(1) == ")" && len(opened) == 0:
		panic(wrong{r.at, api.ErrGroup})
	case len(branches) == 1:
		return branches[0]
	}
	return alt(branches...)
}

// branch reads a branch, and stays ahead of what ends it.
func (r *second) branch(opened []int) tree.Node {
	var pieces []tree.Node
	for !strings.Contains("|)", r.rest(1)) {
		switch next := r.rest(1); {
		case next == "^":
			pieces = append(pieces, start)
			r.at++
		case next == "$":
			pieces = append(pieces, end)
			r.at++
		case strings.Contains("*+?{", next):
			panic(wrong{r.at, api.ErrRepeat})
		default:
			pieces = append(pieces, r.repetitions(r.atom(opened)))
		}
	}
	switch len(pieces) {
	case 0:
		return empty
	case 1:
		return pieces[0]
	}
	return cat(pieces...)
}

// repetitions reads all that stand behind an atom.
func (r *second) repetitions(of tree.Node) tree.Node {
	for {
		switch r.rest(1) {
		case "*":
			of = rep(of, 0, -1)
		case "+":
			of = rep(of, 1, -1)
		case "?":
			of = rep(of, 0, 1)
		case "{":
			m := intervalShape.FindStringSubmatch(r.s[r.at:])
			if m == nil {
				panic(wrong{r.at, api.ErrBound})
			}
			least, _ := strconv.Atoi(m[1])
			most := map[string]int{"": least, ",": -1}[m[2]]
			if m[3] != "" {
				most, _ = strconv.Atoi(m[3])
			}
			if max(least, most) > 255 || most >= 0 && least > most {
				panic(wrong{r.at, api.ErrBound})
			}
			of = rep(of, least, most)
			r.at += len(m[0]) - 1
		default:
			return of
		}
		r.at++
	}
}

// atom reads an atom, within the open groups.
func (r *second) atom(opened []int) tree.Node {
	at := r.at
	sign := r.rest(1)
	if sign == `\` {
		sign = r.rest(2)
	}
	r.at += len(sign)
	switch sign {
	case ".":
		return all
	case "[":
		set, place, e := bracket.Parse(r.s, r.at)
		if e != api.OK {
			panic(wrong{place, e})
		}
		r.at = place
		return tree.One{Set: set}
	case "(":
		if len(opened) >= 12 {
			panic(wrong{at, api.ErrDeep})
		}
		r.groups++
		number := r.groups
		of := r.regex(append(slices.Clone(opened), at))
		r.at++
		r.closed = append(r.closed, number)
		return group(number, of)
	case `\n`:
		return one("\n")
	case `\`:
		panic(wrong{at, api.ErrTail})
	}
	if len(sign) == 1 {
		return one(sign)
	}
	if isPunct(sign[1]) {
		return one(sign[1:])
	}
	return r.extension(at, sign)
}

// extension is what a backslash at a place and a letter or digit stand for.
func (r *second) extension(at int, sign string) tree.Node {
	n := map[string]tree.Node{`\t`: one("\t"), `\w`: word, `\W`: notWord, `\s`: space, `\S`: notSpace}[sign]
	if '1' <= sign[1] && sign[1] <= '9' {
		if !slices.Contains(r.closed, int(sign[1]-'0')) {
			panic(wrong{at, api.ErrBack})
		}
		n = back(int(sign[1] - '0'))
	}
	if n == nil {
		panic(wrong{at, api.ErrForm})
	}
	r.marks = append(r.marks, mark(at, sign))
	return n
}

// wantAgain holds Parse of a text against the second reading; it tells whether the text is a regex.
func wantAgain(t *testing.T, s string) bool {
	t.Helper()
	node, marks, at, e := Parse(s)
	want, marked, place, no := again(s)
	if e != no || at != place || !slices.Equal(marks, marked) || !reflect.DeepEqual(node, want) {
		t.Fatalf("P5.1: Parse(%q): %#v, %v, %d at %d; not %#v, %v, %d at %d", s, node, marks, e, at, want, marked, no, place)
	}
	if e == api.OK && !tree.Right(node) {
		t.Fatalf("P5.1: Parse(%q): a tree that isn't right", s)
	}
	return e == api.OK
}

// wantAllAgain holds Parse of all texts of up to so many parts against the second reading.
func wantAllAgain(t *testing.T, parts []string, most int) {
	t.Helper()
	right := 0
	texts := []string{""}
	for range most {
		var longer []string
		for _, s := range texts {
			for _, part := range parts {
				longer = append(longer, s+part)
			}
		}
		for _, s := range longer {
			if wantAgain(t, s) {
				right++
			}
		}
		texts = longer
	}
	if right == 0 {
		t.Error("no text was a regex")
	}
}

// P5.1 and P7: of all short texts of the bytes, and of the parts, that matter the call answers as a second reading does.
func TestAllShortTexts(t *testing.T) {
	wantAgain(t, "")
	wantAllAgain(t, strings.Split(`a\(){}1,*^$|`, ""), 4)
	wantAllAgain(t, strings.Split(`a\[]+?.n0`, ""), 4)
	wantAllAgain(t, []string{"a", "*", "^", "$", "(", ")", "|", "{2}", `\1`, `\w`}, 5)
	wantAllAgain(t, []string{"a{", "0", "1", "5", "2", ",", "}"}, 6)
}

// numbers tells numbers by a short rule of remainders.
type numbers struct{ x uint32 }

func (r *numbers) next(n int) int {
	r.x ^= r.x << 13
	r.x ^= r.x >> 17
	r.x ^= r.x << 5
	return int(r.x % uint32(n))
}

// P5.1 and P7: the same of longer texts that are put together of parts.
func TestTextsOfParts(t *testing.T) {
	parts := []string{"a", "b", "é", ".", "*", "^", "$", "(", ")", "(", ")", "(", ")", "|", "|", "+", "?", "{", "}", ",", "0", "9", `\(`, `\)`, `\|`, `\1`, `\2`, `\9`, `\0`, `\n`, `\t`, `\w`, `\W`, `\s`, `\S`, `\+`, `\{`, "{2}", "{3,}", "{0,255}", "{5,4}", `\.`, `\\`, `\/`, `\q`, `\`, "[a-c]", "[^]x]", "[[:digit:]]", "[", "]", "[z-a]", "\n", "\x00", "\xff"}
	r := &numbers{2463534242}
	right := 0
	for range 60000 {
		var s strings.Builder
		for range r.next(12) {
			s.WriteString(parts[r.next(len(parts))])
		}
		if wantAgain(t, s.String()) {
			right++
		}
	}
	if right < 2000 {
		t.Errorf("only %d texts were regexes", right)
	}
}

// maker makes a regex as an extended and as a basic text.
type maker struct {
	numbers
	extended, basic strings.Builder
	closed, opened  int
}

func (m *maker) write(extended, basic string) {
	m.extended.WriteString(extended)
	m.basic.WriteString(basic)
}

func (m *maker) regex(depth int) {
	m.branch(depth)
	for m.next(4) == 0 {
		m.write("|", `\|`)
		m.branch(depth)
	}
}

func (m *maker) branch(depth int) {
	if m.next(4) == 0 {
		m.write("^", "^")
	}
	for range m.next(5) {
		m.atom(depth)
		for m.next(3) == 0 {
			m.repetition()
		}
	}
	if m.next(4) == 0 {
		m.write("$", "$")
	}
}

func (m *maker) repetition() {
	least := m.next(256)
	most := least + m.next(256-least)
	switch m.next(6) {
	case 0:
		m.write("*", "*")
	case 1:
		m.write("+", `\+`)
	case 2:
		m.write("?", `\?`)
	case 3:
		m.write(fmt.Sprintf("{%d}", least), fmt.Sprintf(`\{%d\}`, least))
	case 4:
		m.write(fmt.Sprintf("{%03d,}", least), fmt.Sprintf(`\{%d,\}`, least))
	case 5:
		m.write(fmt.Sprintf("{%d,%d}", least, most), fmt.Sprintf(`\{%d,%d\}`, least, most))
	}
}

func (m *maker) atom(depth int) {
	switch k := m.next(5); {
	case k == 0 && depth > 0:
		m.write("(", `\(`)
		m.opened++
		first := m.opened
		m.regex(depth - 1)
		m.write(")", `\)`)
		m.closed = first
		return
	case k == 1 && 0 < m.closed && m.closed <= 9:
		word := fmt.Sprintf(`\%d`, m.closed)
		m.write(word, word)
		return
	case k == 2:
		word := []string{`\w`, `\W`, `\s`, `\S`, `\t`, `\n`, ".", "[^]-a]", `[\|)]`}[m.next(9)]
		m.write(word, word)
		return
	}
	sign := byte(m.next(256))
	word := string([]byte{sign})
	extended, basic := word, word
	if strings.Contains(`\^$*+?{|().[`, word) {
		extended = `\` + word
	}
	if strings.Contains(`\^$*.[`, word) {
		basic = `\` + word
	}
	m.write(extended, basic)
}

// P5.1: of a regex that is made as an extended and as a basic text both trees are the same.
func TestSameTreesAsBasic(t *testing.T) {
	r := numbers{88172645}
	made := 0
	for range 8000 {
		m := &maker{numbers: numbers{uint32(1 + r.next(1<<31))}}
		m.regex(4)
		want, _, _, e := bre.Parse(m.basic.String())
		if e == api.ErrLong {
			continue
		}
		made++
		node, _, _, no := Parse(m.extended.String())
		if e != api.OK || no != api.OK || !reflect.DeepEqual(node, want) {
			t.Errorf("P5.1: Parse(%q): %#v, %d; bre.Parse(%q): %#v, %d", m.extended.String(), node, no, m.basic.String(), want, e)
		}
	}
	if made < 4000 {
		t.Errorf("only %d regexes", made)
	}
}

// P8 (R6, R8): what was asked before doesn't matter, nor what became of its answer.
func TestSameAnswersAgain(t *testing.T) {
	texts := []string{`a+(b|\w)\1`, `\w(`, "", `\t|\q`, "x?", "[", strings.Repeat("a", 300)}
	var first []string
	for round := range 3 {
		for i, s := range texts {
			node, marks, at, e := Parse(s)
			told := fmt.Sprintf("%#v %v %d %d", node, marks, at, e)
			if round == 0 {
				first = append(first, told)
			} else if told != first[i] {
				t.Errorf("P8 (R8): Parse(%q) differs in round %d", s, round)
			}
			spare := marks[:cap(marks)]
			for j := range spare {
				spare[j] = mark(-1, "gone")
			}
		}
	}
}
