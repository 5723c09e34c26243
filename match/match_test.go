package match

import (
	"fmt"
	"math"
	"math/bits"
	"runtime/debug"
	"slices"
	"strings"
	"testing"

	"placket/api"
	"placket/bre"
	"placket/code"
	"placket/ere"
	"placket/octet"
	"placket/tree"
)

// The calls are just those of the chapter.
var (
	_ func(p code.Program) *Regex                          = New
	_ func(r *Regex, s string, from int) (l []int, b bool) = (*Regex).Find
	_ func(r *Regex, s string) bool                        = (*Regex).Has
	_ func(r *Regex) int                                   = (*Regex).Groups
)

func one(bytes string) tree.Node                 { return tree.One{Set: octet.Of([]byte(bytes)...)} }
func cat(parts ...tree.Node) tree.Node           { return tree.Cat{Parts: parts} }
func alt(parts ...tree.Node) tree.Node           { return tree.Alt{Parts: parts} }
func rep(n tree.Node, least, most int) tree.Node { return tree.Rep{Of: n, Min: least, Max: most} }
func group(number int, n tree.Node) tree.Node    { return tree.Group{Number: number, Of: n} }
func back(number int) tree.Node                  { return tree.Back{Number: number} }

var a, b = one("a"), one("b")

// program is a tree's.
func program(t testing.TB, n tree.Node) code.Program {
	t.Helper()
	p, e := code.Compile(n)
	if e != api.OK {
		t.Fatalf("Compile of %.200s: error %d", fmt.Sprintf("%#v", n), e)
	}
	return p
}

// extended is the program of an extended regex.
func extended(t testing.TB, s string) code.Program {
	t.Helper()
	n, _, place, e := ere.Parse(s)
	if e != api.OK {
		t.Fatalf("Parse of %q: error %d at %d", s, e, place)
	}
	return program(t, n)
}

// told is what Find answers, as a text.
func told(slots []int, ok bool) string {
	if !ok && len(slots) == 0 {
		return "none"
	}
	if !ok {
		return fmt.Sprint("none, and ", slots)
	}
	return fmt.Sprint(slots)
}

// wantFound holds what is found of a program in a text from a place on, and all that must agree with it.
func wantFound(t *testing.T, name any, p code.Program, s string, from int, want string) {
	t.Helper()
	r := New(p)
	if got := told(r.Find(s, from)); got != want {
		t.Errorf("P8.1: Find of %v in %.80q from %d: %s, want %s", name, s, from, got, want)
	}
	if has := r.Has(s); from == 0 && has != (want != "none") {
		t.Errorf("P8.1: Has of %v in %.80q: %t", name, s, has)
	}
	if r.Groups() != p.Groups {
		t.Errorf("P8.1: Groups of %v: %d, want %d", name, r.Groups(), p.Groups)
	}
}

// wantFirst does so of an extended regex, from the place 0 on.
func wantFirst(t *testing.T, regex, s, want string) {
	t.Helper()
	wantFound(t, regex, extended(t, regex), s, 0, want)
}

// P8.1: the chapter's example.
func TestExample(t *testing.T) {
	wantFirst(t, "(a|ab)(c|bcd)", "xabcd", "[1 5 1 2 2 5]")
}

// P8.1: the first match begins at the least place, and is the longest one from there.
func TestFirstAndLongest(t *testing.T) {
	wantFirst(t, "a", "xaa", "[1 2]")
	wantFirst(t, "a", "xyz", "none")
	wantFirst(t, "a", "", "none")
	wantFirst(t, "", "", "[0 0]")
	wantFirst(t, "", "abc", "[0 0]")
	wantFirst(t, "a*", "baa", "[0 0]")
	wantFirst(t, "a+", "baab", "[1 3]")
	wantFirst(t, "a|ab|abc", "xabcd", "[1 4]")
	wantFirst(t, "abc|ab|a", "xabcd", "[1 4]")
	wantFirst(t, "b|abcd", "abcd", "[0 4]")
	wantFirst(t, "b|abcd", "abcc", "[1 2]")
	wantFirst(t, "c|bcde|abcdef", "abcdeg", "[1 5]")
	wantFirst(t, "bb|b*", "bbbb", "[0 4]")
	wantFirst(t, "|a|aa", "aaa", "[0 2]")
	wantFirst(t, "x*", "axx", "[0 0]")
	wantFirst(t, "abab|ab", "aabab", "[1 5]")
}

// P8.1: of the ways to the longest match the preferred one tells the slots; no other longest one, no preferred shorter one.
func TestPreferred(t *testing.T) {
	wantFirst(t, "(a)|a", "a", "[0 1 0 1]")
	wantFirst(t, "a|(a)", "a", "[0 1 -1 -1]")
	wantFirst(t, "(a|ab)(bc|c)", "abc", "[0 3 0 1 1 3]")
	wantFirst(t, "(ab|a)(bc|c)", "abc", "[0 3 0 2 2 3]")
	wantFirst(t, "(a|ab)(bc|cde)", "abcde", "[0 5 0 2 2 5]")
	wantFirst(t, "(a*)(a*)", "aa", "[0 2 0 2 2 2]")
	wantFirst(t, "(a|aa)(a|aa)", "aaa", "[0 3 0 1 1 3]")
	wantFirst(t, "(a)|(a)b|(ab)", "ab", "[0 2 -1 -1 0 1 -1 -1]")
	wantFirst(t, "(a|b)*c|(a|ab)*c", "abc", "[0 3 1 2 -1 -1]")
	wantFirst(t, "((a)|(b)|(ab))*", "ab", "[0 2 1 2 0 1 1 2 -1 -1]")
	wantFirst(t, "((ab)|(a)|(b))*", "ab", "[0 2 0 2 0 2 -1 -1 -1 -1]")
	wantFirst(t, "(a?)(ab)?(b?)", "ab", "[0 2 0 1 -1 -1 1 2]")
	wantFirst(t, "(a?)(ab)?", "ab", "[0 2 0 0 0 2]")
	wantFirst(t, "(a{0,1}){2}", "a", "[0 1 1 1]")
	wantFirst(t, "(|a)(|a)", "a", "[0 1 0 0 0 1]")
}

// P8.1: slots of the whole, and of each group, where it begins and ends; those of its last time; -1 and -1, if it wasn't matched.
func TestSlots(t *testing.T) {
	wantFirst(t, "x(a(b)c(d(e)))", "xxabcde", "[1 7 2 7 3 4 5 7 6 7]")
	wantFirst(t, "()", "a", "[0 0 0 0]")
	wantFirst(t, "(a)()(b)", "ab", "[0 2 0 1 1 1 1 2]")
	wantFirst(t, "(a|b)*", "abab", "[0 4 3 4]")
	wantFirst(t, "((a)|b)*", "ab", "[0 2 1 2 0 1]")
	wantFirst(t, "((a)|(b))*", "bba", "[0 3 2 3 2 3 1 2]")
	wantFirst(t, "(a)?b", "b", "[0 1 -1 -1]")
	wantFirst(t, "(a){0}b", "ab", "[1 2 -1 -1]")
	wantFirst(t, "(a)|(b)|(c)", "b", "[0 1 -1 -1 0 1 -1 -1]")
	wantFirst(t, "(ab){2,3}", "ababababab", "[0 6 4 6]")
	wantFirst(t, "(a(b)?)+", "aba", "[0 3 2 3 1 2]")
}

// P8.1: Byte: a byte of the set, whatever bytes there are; none behind the text's end.
func TestBytes(t *testing.T) {
	for i := range 256 {
		it, other := string([]byte{byte(i)}), string([]byte{byte(i + 1)})
		for _, set := range []octet.Set{octet.Of(byte(i)), octet.Span(byte(i), byte(i)).Or(octet.Of('x')), {}, octet.Set{}.Not(), octet.Of(byte(i)).Not()} {
			p := program(t, tree.One{Set: set})
			want := map[bool]string{true: "[0 1]", false: "none"}
			wantFound(t, set.Spans(), p, it, 0, want[set.Has(byte(i))])
			wantFound(t, set.Spans(), p, other, 0, want[set.Has(byte(i+1))])
			wantFound(t, set.Spans(), p, "", 0, "none")
		}
	}
	wantFirst(t, ".", "\n", "[0 1]")
	wantFirst(t, "[^a]", "a\xe9", "[1 2]")
	wantFirst(t, ".", "\xc3\xa9", "[0 1]")
	wantFirst(t, "..", "\xff\x00", "[0 2]")
	wantFirst(t, "ab", "a", "none")
	wantFirst(t, "a\\nb", "xa\nb", "[1 4]")
	wantFirst(t, "a..", "ab", "none")
}

// P8.1: Begin is at 0 alone, from whatever place on, and End at the text's length alone; a byte A is nothing of its own.
func TestAnchors(t *testing.T) {
	wantFirst(t, "^a", "ba", "none")
	wantFirst(t, "^a", "b\na", "none")
	wantFirst(t, "^a", "ab", "[0 1]")
	wantFirst(t, "a$", "ab", "none")
	wantFirst(t, "a$", "a\n", "none")
	wantFirst(t, "a$", "aba", "[2 3]")
	wantFirst(t, "^$", "", "[0 0]")
	wantFirst(t, "^$", "\n", "none")
	wantFirst(t, "$", "abc", "[3 3]")
	wantFirst(t, "x*$", "ax", "[1 2]")
	wantFirst(t, "x*$", "xa", "[2 2]")
	wantFirst(t, "a|^b|c$", "cbc", "[2 3]")
	wantFirst(t, "(^|b)a", "aba", "[0 1 0 0]")
	wantFirst(t, "(^|b)a", "cba", "[1 3 1 2]")
	wantFirst(t, "(^a)*", "aa", "[0 1 0 1]")
	wantFirst(t, "(a$|a)*", "aa", "[0 2 1 2]")
	wantFirst(t, "$^", "", "[0 0]")
	wantFirst(t, "a^", "aa", "none")
	wantFirst(t, "$a", "aa", "none")
	for from, want := range []string{"[0 1]", "none", "none"} {
		wantFound(t, "^a", extended(t, "^a"), "aa", from, want)
	}
	for from, want := range []string{"[0 0]", "none", "none"} {
		wantFound(t, "^", extended(t, "^"), "aa", from, want)
	}
	for from, want := range []string{"[0 0]", "[2 2]", "[2 2]"} {
		wantFound(t, "^|$", extended(t, "^|$"), "aa", from, want)
	}
}

// P8.1: a round of a loop that began must have had a byte; what must be there may be empty.
func TestRounds(t *testing.T) {
	wantFirst(t, "(a*)*", "b", "[0 0 -1 -1]")
	wantFirst(t, "(a*)+", "b", "[0 0 0 0]")
	wantFirst(t, "(a*)*", "aa", "[0 2 0 2]")
	wantFirst(t, "(a*)+", "aa", "[0 2 0 2]")
	wantFirst(t, "(a*){2}", "aa", "[0 2 2 2]")
	wantFirst(t, "(a*){2,}", "aa", "[0 2 2 2]")
	wantFirst(t, "(a*){0,3}", "aa", "[0 2 0 2]")
	wantFirst(t, "(|a)*", "aa", "[0 2 1 2]")
	wantFirst(t, "(|a)+", "aa", "[0 2 1 2]")
	wantFirst(t, "(|a)?", "b", "[0 0 -1 -1]")
	wantFirst(t, "(a|)?", "a", "[0 1 0 1]")
	wantFirst(t, "(){3,}", "b", "[0 0 0 0]")
	wantFirst(t, "()*", "b", "[0 0 -1 -1]")
	wantFirst(t, "(^)*a", "a", "[0 1 -1 -1]")
	wantFirst(t, "(^)+a", "a", "[0 1 0 0]")
	wantFirst(t, "((a*)*)*", "aab", "[0 2 0 2 0 2]")
	wantFirst(t, "((a*)*b)*", "aabb", "[0 4 3 4 0 2]")
	wantFirst(t, "((a?)(b?))*", "ab", "[0 2 0 2 0 1 1 2]")
	wantFirst(t, "((|a)(|b))*", "ab", "[0 2 1 2 1 1 1 2]")
	wantFirst(t, "(a**)**", "aa", "[0 2 0 2]")
	wantFirst(t, "(a|b*)*c", "abbc", "[0 4 1 3]")
	wantFirst(t, "(((a)*b*)*c*)*", "acab", "[0 4 2 4 2 4 2 3]")
	// Of a round that must be the place isn't asked; of those behind it, it is.
	wantFirst(t, "(()|a)+", "a", "[0 1 0 1 0 0]")
	wantFirst(t, "(()|a){1}", "a", "[0 1 0 1 -1 -1]")
}

// P8.1: intervals: so many rounds, and no more.
func TestIntervals(t *testing.T) {
	wantFirst(t, "a{2,3}", "aaaa", "[0 3]")
	wantFirst(t, "a{2,3}", "ba", "none")
	wantFirst(t, "a{2,}", "baaaa", "[1 5]")
	wantFirst(t, "a{2}", "aaa", "[0 2]")
	wantFirst(t, "a{0}", "aaa", "[0 0]")
	wantFirst(t, "a{0,2}b", "aaab", "[1 4]")
	wantFirst(t, "(a{0,1}){2,3}", "aaaa", "[0 3 2 3]")
	wantFirst(t, "(a|b){255}", strings.Repeat("ab", 128), "[0 255 254 255]")
	wantFirst(t, "(a|b){255}", strings.Repeat("ab", 127), "none")
	wantFirst(t, "a{0,255}", strings.Repeat("a", 300), "[0 255]")
	wantFirst(t, "(a{2}){2}", "baaaaa", "[1 5 3 5]")
}

// P8.1: Back: what the group matched last stands here again; none, if it wasn't matched.
func TestBacks(t *testing.T) {
	wantFirst(t, `(.)\1`, "abccd", "[2 4 2 3]")
	wantFirst(t, `(.)\1`, "abc", "none")
	wantFirst(t, `(a*)\1`, "aaaaa", "[0 4 0 2]")
	wantFirst(t, `(a*)b\1`, "aabaa", "[0 5 0 2]")
	wantFirst(t, `(a*)b\1`, "aaba", "[1 4 1 2]")
	wantFirst(t, `((a)|b)\2`, "bb", "none")
	wantFirst(t, `((a)|b)\2`, "baa", "[1 3 1 2 1 2]")
	wantFirst(t, `(a?)\1{2}b`, "aaab", "[0 4 0 1]")
	wantFirst(t, `(a){0}\1`, "aa", "none")
	wantFirst(t, `(a)?\1b`, "b", "none")
	wantFirst(t, `(a?)\1b`, "b", "[0 1 0 0]")
	wantFirst(t, `()\1`, "b", "[0 0 0 0]")
	wantFirst(t, `(abcd)\1`, "ababcdabcda", "[2 10 2 6]")
	wantFirst(t, `(abcd)\1e`, "abcdabcde", "[0 9 0 4]")
	wantFirst(t, `(ab)\1`, "abaab", "none")
	wantFirst(t, `(ab)\1`, "aba", "none")
	wantFirst(t, `(ab|cd)*\1`, "abcdcd", "[0 6 2 4]")
	wantFirst(t, `(ab|cd)*\1`, "abcdab", "none")
	wantFirst(t, `((a|b)\2)*`, "aabbab", "[0 4 2 4 2 3]")
	wantFirst(t, `(a)(b)\2\1`, "abba", "[0 4 0 1 1 2]")
	wantFirst(t, `(a)(b)\2\1`, "abab", "none")
	wantFirst(t, `(a(.))\1\2`, "xaxaxx", "[1 6 1 3 2 3]")
	wantFirst(t, `(.*)\n\1$`, "xab\nab", "[1 6 1 3]")
	wantFirst(t, `(a)\1*$`, "aaaa", "[0 4 0 1]")
	wantFirst(t, `(aa)\1*$`, "aaaaa", "[1 5 1 3]")
	wantFirst(t, `(a|aa)\1$`, "aaaa", "[0 4 0 2]")
	wantFirst(t, "(\xff\x00)\\1", "a\xff\x00\xff\x00", "[1 5 1 3]")
	wantFirst(t, `(a)(b)(c)(d)(e)(f)(g)(h)(i)\9\1`, "abcdefghiia", "[0 11 0 1 1 2 2 3 3 4 4 5 5 6 6 7 7 8 8 9]")
	// What a group matched in a round ahead stands, until it matches anew.
	wantFirst(t, `((a)|b\2)*c`, "abac", "[0 4 1 3 0 1]")
	wantFirst(t, `((a|b)|c\2)*d`, "acabcbd", "[0 7 4 6 3 4]")
	wantFirst(t, `((a|b)|c\2)*d`, "acabcad", "[5 7 5 6 5 6]")
	// An empty one is no byte of a round.
	wantFirst(t, `(a?)(\1)*b`, "b", "[0 1 0 0 -1 -1]")
	wantFirst(t, `(a?)(\1)*b`, "aaab", "[0 4 0 1 2 3]")
	wantFirst(t, `(x?)(\1|a)*`, "aa", "[0 2 0 0 1 2]")
}

// P8.1: of ways that part and come together again at a place, other slots may be asked for.
func TestBacksOfManyWays(t *testing.T) {
	wantFirst(t, `(a|ab)(c|bc)\2`, "abcc", "[0 4 0 2 2 3]")
	wantFirst(t, `(a|ab)(c|bc)\2`, "abcbc", "[0 5 0 1 1 3]")
	wantFirst(t, `(a|ab)(c|bc)\1`, "abcab", "[0 5 0 2 2 3]")
	wantFirst(t, `(a|ab)(c|bc)(x|)\1`, "abca", "[0 4 0 1 1 3 3 3]")
	wantFirst(t, `(a*)(a*)b\2`, "aaba", "[0 4 0 1 1 2]")
	wantFirst(t, `(a*)(a*)b\2c`, "aabaac", "[0 6 0 0 0 2]")
	wantFirst(t, `(a*)(a*)b\1c`, "aabc", "[0 4 0 0 0 2]")
	wantFirst(t, `(a*)(a*)(a*)b\1c\2d\3e`, "aaaabacaadae", "[0 12 0 1 1 3 3 4]")
	wantFirst(t, `((a)|(a))\3`, "aa", "[0 2 0 1 -1 -1 0 1]")
	wantFirst(t, `(a(a)*|(a)*a)b\3`, "aaaba", "[0 5 0 3 -1 -1 1 2]")
	wantFirst(t, `(x(a)?|x(b?)a)c\3d`, "xacd", "[0 4 0 2 -1 -1 1 1]")
	wantFirst(t, `(()a|b(a)|ba)*\3c`, "bac", "none")
	wantFirst(t, `(()a|ba|b(a))*\3c`, "baac", "[0 4 0 2 -1 -1 1 2]")
}

// P8.1: slots that are asked for are told apart, whatever their numbers are: 2, 112, 1 and 2 aren't 2, 3, 4 and 38, though their digits (of base 36) are the same.
func TestSlotsToldApart(t *testing.T) {
	regex := `^x(p|r|s|(q|qrs{108})|(p|s{34}))+b\2c\3d`
	long := "qr" + strings.Repeat("s", 108)
	wantFirst(t, regex, "xp"+long+"b"+long+"cpd", "[0 226 2 112 2 112 1 2]")
	wantFirst(t, regex, "xp"+long+"bqc"+long[2:36]+"d", "[0 150 78 112 2 3 78 112]")
	wantFirst(t, regex, "xp"+long+"b"+long+"cqd", "none")
}

// P8.1: Find looks from a place on: none that begins ahead of it, all of the text behind it and ahead of it counts.
func TestFrom(t *testing.T) {
	p := extended(t, "a*")
	for from, want := range []string{"[0 2]", "[1 2]", "[2 2]", "[3 3]"} {
		wantFound(t, "a*", p, "aab", from, want)
	}
	p = extended(t, "(a+)(b|$)")
	for from, want := range []string{"[0 3 0 2 2 3]", "[1 3 1 2 2 3]", "[4 6 4 6 6 6]", "[4 6 4 6 6 6]", "[4 6 4 6 6 6]", "[5 6 5 6 6 6]", "none"} {
		wantFound(t, "(a+)(b|$)", p, "aabcaa", from, want)
	}
	for _, from := range []int{-1, 4, 5, -2, math.MinInt, math.MaxInt, math.MaxInt32} {
		for _, regex := range []string{"", "a*", "^", "$", `(a?)\1`} {
			wantFound(t, regex, extended(t, regex), "aab", from, "none")
		}
	}
	for _, from := range []int{-1, 1} {
		wantFound(t, "", extended(t, ""), "", from, "none")
	}
}

// P8.1: basic regexes as well as extended ones: a program doesn't tell which it is of.
func TestBasic(t *testing.T) {
	for _, x := range []struct{ regex, s, want string }{
		{`\(a*\)b*\1$`, "aabba", "[1 5 1 2]"},
		{`^\(.*\)\n\1$`, "ab\nab", "[0 5 0 2]"},
		{`\(a\|ab\)\(c\|bcd\)`, "xabcd", "[1 5 1 2 2 5]"},
		{`*a`, "a*a", "[1 3]"},
		{`x\{2,3\}`, "xxxx", "[0 3]"},
	} {
		n, _, _, e := bre.Parse(x.regex)
		if e != api.OK {
			t.Fatalf("Parse of %s: error %d", x.regex, e)
		}
		wantFound(t, x.regex, program(t, n), x.s, 0, x.want)
	}
}

// P8.1: how many groups there are, also of those that are never laid.
func TestGroups(t *testing.T) {
	for regex, want := range map[string]int{"": 0, "a*": 0, "(a)": 1, "((a)b)": 2, "(a){3}": 1, "(a){0}": 1, "(a)|(b)|(c)": 3, "((((((((((((a))))))))))))": 12} {
		r := New(extended(t, regex))
		if got := r.Groups(); got != want {
			t.Errorf("P8.1: Groups of %s: %d, want %d", regex, got, want)
		}
		if l, ok := r.Find("aaabc", 0); !ok || len(l) != 2*want+2 {
			t.Errorf("P8.1: Find of %s: %v", regex, l)
		}
	}
	var many tree.Node = a
	for i := range 1400 {
		many = group(1400-i, many)
	}
	l, ok := New(program(t, many)).Find("ba", 0)
	if !ok || len(l) != 2802 || slices.Min(l) != 1 || slices.Max(l) != 2 {
		t.Errorf("P8.1: Find of 1400 groups: %v, %t", l, ok)
	}
	l, ok = New(program(t, cat(rep(many, 0, 0), a))).Find("ba", 0)
	if !ok || len(l) != 2802 || l[0] != 1 || l[1] != 2 || slices.Max(l[2:]) != -1 {
		t.Errorf("P8.1: Find of 1400 groups that aren't laid: %v, %t", l, ok)
	}
}

// reading is the chapter's words once more, way by way.
type reading struct {
	p             code.Program
	s             string
	slots, begins []int
	best          []int
	steps         int
}

// from goes all ways on from an instruction and a place, the preferred ones first.
func (r *reading) from(i, place int) {
	if r.steps--; r.steps < 0 {
		return
	}
	inst := r.p.Insts[i]
	set := func(list []int) {
		had := list[inst.X]
		list[inst.X] = place
		r.from(i+1, place)
		list[inst.X] = had
	}
	switch inst.Op {
	case code.Byte:
		if place < len(r.s) && inst.Set.Has(r.s[place]) {
			r.from(i+1, place+1)
		}
	case code.Split:
		r.from(inst.X, place)
		r.from(inst.Y, place)
	case code.Jump:
		r.from(inst.X, place)
	case code.Save:
		set(r.slots)
	case code.Enter:
		set(r.begins)
	case code.Round:
		if place != r.begins[inst.X] {
			r.from(i+1, place)
		}
	case code.Back:
		x, y := r.slots[2*inst.X], r.slots[2*inst.X+1]
		if x >= 0 && y >= 0 && strings.HasPrefix(r.s[place:], r.s[x:y]) {
			r.from(i+1, place+y-x)
		}
	case code.Begin:
		if place == 0 {
			r.from(i+1, place)
		}
	case code.End:
		if place == len(r.s) {
			r.from(i+1, place)
		}
	case code.Match:
		if r.best == nil || place > r.best[1] {
			r.best = slices.Clone(r.slots)
		}
	}
}

// read is what Find must answer by the words; false, if there are too many ways to be gone.
func read(p code.Program, s string, from int) (string, bool) {
	for ; from <= len(s); from++ {
		r := reading{p: p, s: s, steps: 5000}
		r.slots = slices.Repeat([]int{-1}, 2*p.Groups+2)
		r.begins = slices.Repeat([]int{-1}, p.Loops)
		r.from(0, from)
		if r.steps < 0 {
			return "", false
		}
		if r.best != nil {
			return told(r.best, true), true
		}
	}
	return "none", true
}

// wantRead holds all that is found in a text against the second reading, and tells whether that could be had.
func wantRead(t *testing.T, name any, p code.Program, s string) bool {
	t.Helper()
	r := New(p)
	for from := range len(s) + 1 {
		want, ok := read(p, s, from)
		if !ok {
			return false
		}
		if got := told(r.Find(s, from)); got != want {
			t.Fatalf("P8.1: Find of %v in %q from %d: %s, want %s", name, s, from, got, want)
		}
		if has := r.Has(s); from == 0 && has != (want != "none") {
			t.Fatalf("P8.1: Has of %v in %q: %t", name, s, has)
		}
	}
	return true
}

// texts is all texts of up to so many bytes of some.
func texts(bytes string, most int) []string {
	all := []string{""}
	for from := 0; most > 0; most-- {
		to := len(all)
		for _, s := range all[from:to] {
			for _, c := range bytes {
				all = append(all, s+string(c))
			}
		}
		from = to
	}
	return all
}

// P8.1: of all short regexes, in all short texts, what is found is as the second reading has it.
func TestAllShortRegexes(t *testing.T) {
	parts := []string{"a", "b", "*", "^", "$", "(", ")", "|", "{2}", "{0,2}", "+", `\1`, "?"}
	regexes, right, held, left := []string{""}, 0, 0, 0
	short, shorter := texts("ab", 4), texts("ab", 3)[1:]
	for size := 1; size <= 5; size++ {
		var longer []string
		for _, s := range regexes {
			for _, part := range parts {
				longer = append(longer, s+part)
			}
		}
		for _, regex := range longer {
			n, _, _, e := ere.Parse(regex)
			if e != api.OK {
				continue
			}
			right++
			in := short
			if size == 5 {
				in = shorter[right%2*6:][:8]
			}
			p := program(t, n)
			for _, s := range in {
				if wantRead(t, regex, p, s) {
					held++
				} else {
					left++
				}
			}
		}
		regexes = longer
	}
	if right < 25000 || held < 250000 || left > held/100 {
		t.Errorf("%d texts were regexes; %d texts were looked at, %d not", right, held, left)
	}
}

// maker makes right trees, by numbers that a short rule of remainders tells.
type maker struct {
	x      uint32
	groups int
	closed []int
	backs  bool
}

func (m *maker) next(n int) int {
	m.x ^= m.x << 13
	m.x ^= m.x >> 17
	m.x ^= m.x << 5
	return int(m.x % uint32(n))
}

func (m *maker) regex(depth int) tree.Node {
	branches := []tree.Node{m.branch(depth)}
	for m.next(5) < 2 {
		branches = append(branches, m.branch(depth))
	}
	return tree.Choose(branches...)
}

func (m *maker) branch(depth int) tree.Node {
	var pieces []tree.Node
	for range m.next(4) {
		piece := m.atom(depth)
		anchor := piece == tree.Node(tree.Start{}) || piece == tree.Node(tree.End{})
		for m.next(5) < 2 && !anchor {
			least := m.next(3)
			piece = rep(piece, least, []int{-1, -1, least, least + 1, least + 2}[m.next(5)])
		}
		pieces = append(pieces, piece)
	}
	return tree.Join(pieces...)
}

func (m *maker) atom(depth int) tree.Node {
	switch k := m.next(14); {
	case k == 0:
		return tree.Start{}
	case k == 1:
		return tree.End{}
	case k < 4 && len(m.closed) > 0 && m.backs:
		return back(m.closed[m.next(len(m.closed))])
	case k < 10 && depth > 0:
		m.groups++
		number := m.groups
		of := m.regex(depth - 1)
		m.closed = append(m.closed, number)
		return group(number, of)
	}
	return []tree.Node{a, a, b, one("ab")}[m.next(4)]
}

// text is a text of up to so many bytes a, b and, seldom, c.
func (m *maker) text(most int) string {
	var s []byte
	for range m.next(most + 1) {
		s = append(s, "aaaabbbbc"[m.next(9)])
	}
	return string(s)
}

// P8.1: of made trees, in made texts, what is found is as the second reading has it.
func TestMadeTrees(t *testing.T) {
	held, matched := 0, 0
	for i := range 8000 {
		m := &maker{x: uint32(i+1) * 2654435761, backs: i%3 > 0}
		m.next(2)
		n := m.regex(4)
		if !tree.Right(n) {
			t.Fatalf("%#v isn't right", n)
		}
		p, e := code.Compile(n)
		if e != api.OK {
			continue
		}
		for range 3 {
			s := m.text(8)
			if wantRead(t, fmt.Sprintf("%#v", n), p, s) {
				held++
				if got, _ := read(p, s, 0); got != "none" && got != "[0 0]" {
					matched++
				}
			}
		}
	}
	if held < 20000 || matched < 10000 {
		t.Errorf("only %d were held, of which %d matched", held, matched)
	}
}

// ends is all places (a bit each) at which a match of a tree without Backs ends that begins at one of some: chapter 3's words.
func ends(n tree.Node, s string, from uint64) uint64 {
	var to uint64
	switch n := n.(type) {
	case tree.One:
		for place := range len(s) {
			if from>>place&1 == 1 && n.Set.Has(s[place]) {
				to |= 1 << (place + 1)
			}
		}
	case tree.Start:
		to = from & 1
	case tree.End:
		to = from & (1 << len(s))
	case tree.Cat:
		to = from
		for _, part := range n.Parts {
			to = ends(part, s, to)
		}
	case tree.Alt:
		for _, part := range n.Parts {
			to |= ends(part, s, from)
		}
	case tree.Group:
		to = ends(n.Of, s, from)
	case tree.Rep:
		to = from
		for range n.Min {
			to = ends(n.Of, s, to)
		}
		for i := n.Min; i != n.Max; i++ {
			more := to | ends(n.Of, s, to)
			if more == to {
				break
			}
			to = more
		}
	default:
		to = from
	}
	return to
}

// first is where the first match of a tree without Backs is, by the tree alone.
func first(n tree.Node, s string, from int) string {
	for ; from <= len(s); from++ {
		if to := ends(n, s, 1<<from); to != 0 {
			return fmt.Sprint(from, bits.Len64(to)-1)
		}
	}
	return "none"
}

// P8.2: no match begins ahead of the one that is found, and none from there is longer.
func TestNoneAheadNoneLonger(t *testing.T) {
	found := 0
	for i := range 3000 {
		m := &maker{x: uint32(i+1) * 2246822519}
		m.next(2)
		n := m.regex(3)
		p, e := code.Compile(n)
		if e != api.OK {
			continue
		}
		s := m.text(40)
		for from := range len(s) + 1 {
			got := "none"
			if l, ok := New(p).Find(s, from); ok {
				got = fmt.Sprint(l[0], l[1])
				found++
			}
			if want := first(n, s, from); got != want {
				t.Fatalf("P8.2: Find of %#v in %q from %d: %s, want %s", n, s, from, got, want)
			}
		}
	}
	if found < 20000 {
		t.Errorf("only %d were found", found)
	}
}

// P7: the calls end, and are deep in no calls within calls, of long texts too.
func TestLongTexts(t *testing.T) {
	// With so small a stack calls within calls, one a byte, would not come to their end.
	defer debug.SetMaxStack(debug.SetMaxStack(4 << 20))
	const size = 300_000
	as := strings.Repeat("a", size)
	end := fmt.Sprint(size)
	wantFirst(t, "(a|b)*", as, "[0 "+end+" "+fmt.Sprint(size-1)+" "+end+"]")
	wantFirst(t, "(a|b)*c", as, "none")
	wantFirst(t, "(a*)*", as, "[0 "+end+" 0 "+end+"]")
	wantFirst(t, "b|$", as, "["+end+" "+end+"]")
	wantFirst(t, `^(.*)\n\1$`, as+"\n"+as, fmt.Sprintf("[0 %d 0 %d]", 2*size+1, size))
	wantFirst(t, `^(a)\1*$`, as, "[0 "+end+" 0 1]")
	wantFound(t, "a*", extended(t, "a*"), as, size-2, fmt.Sprintf("[%d %d]", size-2, size))
}

// P8.1 and P7: where there is much to go along, ways that come together are gone once.
func TestManyWays(t *testing.T) {
	const size = 500
	as := strings.Repeat("a", size)
	wantFirst(t, "(a|a)*(a|a)*(a|a)*b", as, "none")
	wantFirst(t, "(a|a)*(a|a)*(a|a)*", as, "[0 500 499 500 -1 -1 -1 -1]")
	wantFirst(t, "((a*)*)*b", as+"b", "[0 501 0 500 0 500]")
	wantFirst(t, "(a?){250}a{250}", as[:250], "[0 250 0 0]")
	wantFirst(t, "((a|aa)*|(aa|a)*)*c", as, "none")
	wantFirst(t, `((a|aa)*)*(c)\3`, as+"cc", "[0 502 0 500 499 500 500 501]")
	wantFirst(t, `(c|(a|a)*)*b\1`, as[:100], "none")
	wantFirst(t, "a"+strings.Repeat("*", 249), as, "[0 500]")
	wantFirst(t, "(a"+strings.Repeat("*", 200)+")"+strings.Repeat("*", 40)+"b", as, "none")
}

// P7: the calls end of programs as long as they may be.
func TestLongPrograms(t *testing.T) {
	defer debug.SetMaxStack(debug.SetMaxStack(8 << 20))
	const room = api.MaxCode - 3
	var none, groups, reps tree.Node = nil, nil, a
	none = tree.Alt{Parts: make([]tree.Node, room/2)}
	for i := range room / 2 {
		groups = group(room/2-i, groups)
	}
	for range room/4 - 1 {
		reps = rep(reps, 0, -1)
	}
	for _, x := range []struct {
		n    tree.Node
		s    string
		want string
	}{
		{none, "a", "[0 0]"},
		{tree.Cat{Parts: slices.Repeat([]tree.Node{a}, room)}, strings.Repeat("a", room+1), fmt.Sprintf("[0 %d]", room)},
		{tree.Alt{Parts: slices.Repeat([]tree.Node{a}, room/3)}, "ba", "[1 2]"},
		{reps, "aaa", "[0 3]"},
		{rep(rep(a, 0, 255), 2, 2), strings.Repeat("a", 600), "[0 510]"},
		{rep(rep(a, 255, 255), 11, 11), strings.Repeat("a", 2804), "none"},
	} {
		wantFound(t, "a long program", program(t, x.n), x.s, 0, x.want)
	}
	l, ok := New(program(t, groups)).Find("a", 1)
	if !ok || len(l) != room/2*2+2 || slices.Min(l) != 1 || slices.Max(l) != 1 {
		t.Errorf("P8.1: Find of groups in one another: %v, %t", l, ok)
	}
	const many = 150
	var backs []tree.Node
	for i := range many {
		backs = append(backs, group(2*i+1, nil), group(2*i+2, a))
	}
	for i := range many {
		backs = append(backs, back(2*i+1))
	}
	if l, ok := New(program(t, cat(backs...))).Find(strings.Repeat("a", many), 0); !ok || l[1] != many {
		t.Errorf("P8.1: Find of many groups and Backs: %v, %t", l, ok)
	}
}

// P7: of no program, as Compile answers it beside an error, there is no match.
func TestNoProgram(t *testing.T) {
	p, e := code.Compile(back(1))
	if e == api.OK {
		t.Fatal("Compile of a Back alone: no error")
	}
	for _, s := range []string{"", "a"} {
		wantFound(t, "no program", p, s, 0, "none")
	}
}

// P8 (R6): a program that is handed in is neither changed nor kept, spare room included.
func TestProgramIsNotKept(t *testing.T) {
	for _, regex := range []string{"(a|b)*c", `(a)\1c`} {
		p := extended(t, regex)
		whole := append(slices.Clone(p.Insts), code.Inst{Op: code.Jump, X: -7}, code.Inst{Op: code.Match})
		before := slices.Clone(whole)
		p.Insts = whole[:len(p.Insts)]
		r := New(p)
		want := told(r.Find("xaac", 0))
		if !slices.Equal(whole, before) {
			t.Errorf("P8 (R6): %s: the program was changed", regex)
		}
		for i := range whole {
			whole[i] = code.Inst{Op: code.Match}
		}
		if got := told(r.Find("xaac", 0)); got != want || !r.Has("xaac") || r.Has("x") || r.Groups() != 1 {
			t.Errorf("P8 (R6): %s: with the program changed behind New, Find answers %s, not %s", regex, got, want)
		}
	}
}

// P8 (R6 and R8): each answer is new memory, and depends on nothing that was asked before.
func TestSameAnswersAgain(t *testing.T) {
	regexes := []string{"(a|ab)(c|bcd)", "(a*)*", `(a*)b\1`, "^a|b$", "(a)|(b)", "x"}
	in := append(texts("ab", 3), "xabcd", "aabaa", "bca", strings.Repeat("ab", 50))
	first := map[string]string{}
	var all []*Regex
	for _, regex := range regexes {
		all = append(all, New(extended(t, regex)))
	}
	for round := range 3 {
		for k := range in {
			s := in[(k*7+round*5)%len(in)]
			for i, r := range all {
				for from := -1; from <= len(s)+1; from++ {
					l, ok := r.Find(s, from)
					key := fmt.Sprint(i, from, s)
					if round == 0 {
						first[key] = told(l, ok)
					}
					if got := told(l, ok); got != first[key] && first[key] != "" {
						t.Errorf("P8 (R8): Find of %s in %q from %d: %s, at first %s", regexes[i], s, from, got, first[key])
					}
					again, _ := r.Find(s, from)
					for i := range l {
						l[i] = -9
					}
					_ = append(l, -9, -9)
					if got := told(again, ok); round > 0 && got != first[key] {
						t.Errorf("P8 (R6): Find of %s in %q: an answer was changed by another one: %s", regexes[i], s, got)
					}
				}
				r.Has(s)
			}
		}
	}
}
