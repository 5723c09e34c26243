package subst

import (
	"fmt"
	"math"
	"slices"
	"strings"
	"testing"

	"placket/api"
	"placket/cmd"
	"placket/code"
	"placket/match"
)

// The calls are just those of the chapter.
var (
	_ func(r *match.Regex, s string) [][]int                  = Matches
	_ func(x cmd.Sub, s string, slots []int) string           = Replace
	_ func(r *match.Regex, x cmd.Sub, s string) (string, int) = Apply
)

// sub is an s of an extended script, and its regex.
func sub(t testing.TB, script string) (cmd.Sub, *match.Regex) {
	t.Helper()
	c, _, place, e := cmd.Parse(script, 0, true)
	if e != api.OK {
		t.Fatalf("Parse of %.80q: error %d at %d", script, e, place)
	}
	p, e := code.Compile(c.Sub.Tree)
	if e != api.OK {
		t.Fatalf("Compile of %.80q: error %d", script, e)
	}
	return c.Sub, match.New(p)
}

// wantMatches holds the slots of all matches of an extended regex.
func wantMatches(t *testing.T, regex, s, want string) {
	t.Helper()
	_, r := sub(t, "s/"+regex+"/x/")
	if got := fmt.Sprint(Matches(r, s)); got != want {
		t.Errorf("P18.1: Matches of %s in %.80q: %.200s, want %.200s", regex, s, got, want)
	}
}

// wantMade holds what an s makes of a text.
func wantMade(t *testing.T, script, s, want string, count int) {
	t.Helper()
	x, r := sub(t, script)
	if got, n := Apply(r, x, s); got != want || n != count {
		t.Errorf("P18.1: %s of %.80q: %.80q, %d, want %.80q, %d", script, s, got, n, want, count)
	}
}

// P18.1: the chapter's example.
func TestExample(t *testing.T) {
	wantMade(t, "s/b*/x/g", "abc", "xaxcx", 3)
}

// P18.1: each match is the first one from the end of the one ahead on: the longest one there; none begins ahead of that end.
func TestMatches(t *testing.T) {
	wantMatches(t, "a", "banana", "[[1 2] [3 4] [5 6]]")
	wantMatches(t, "a", "xyz", "[]")
	wantMatches(t, "a", "", "[]")
	wantMatches(t, "aa", "aaaaa", "[[0 2] [2 4]]")
	wantMatches(t, "aba", "ababaaba", "[[0 3] [5 8]]")
	wantMatches(t, "a|ab", "abaab", "[[0 2] [2 3] [3 5]]")
	wantMatches(t, "a|aba|b", "ababa", "[[0 3] [3 4] [4 5]]")
	wantMatches(t, ".*", "ab", "[[0 2]]")
	wantMatches(t, "a+|c", "caabca", "[[0 1] [1 3] [4 5] [5 6]]")
}

// P18.1: an empty match is one, but at the end of the one ahead, whether that is empty or not; the text's end is a place, too.
func TestEmptyMatches(t *testing.T) {
	wantMatches(t, "x*", "", "[[0 0]]")
	wantMatches(t, "x*", "ab", "[[0 0] [1 1] [2 2]]")
	wantMatches(t, "()", "ab", "[[0 0 0 0] [1 1 1 1] [2 2 2 2]]")
	wantMatches(t, "b*", "abc", "[[0 0] [1 2] [3 3]]")
	wantMatches(t, "a*", "bab", "[[0 0] [1 2] [3 3]]")
	wantMatches(t, "a*", "baac", "[[0 0] [1 3] [4 4]]")
	wantMatches(t, "a*", "aa", "[[0 2]]")
	wantMatches(t, "a*", "abb", "[[0 1] [2 2] [3 3]]")
	wantMatches(t, "a*|b", "bab", "[[0 1] [1 2] [2 3]]")
	wantMatches(t, "a*|bb", "abbb", "[[0 1] [1 3] [4 4]]")
	wantMatches(t, "a?", "aab", "[[0 1] [1 2] [3 3]]")
	wantMatches(t, "(ab)*", "aabab", "[[0 0 -1 -1] [1 5 3 5]]")
}

// P18.1: the text begins at its place 0 alone, wherever a match is looked for from.
func TestBeginAndEnd(t *testing.T) {
	wantMatches(t, "^a", "aaa", "[[0 1]]")
	wantMatches(t, "^", "ab", "[[0 0]]")
	wantMatches(t, "^", "", "[[0 0]]")
	wantMatches(t, "^a|b", "aab", "[[0 1] [2 3]]")
	wantMatches(t, "^a*", "baa", "[[0 0]]")
	wantMatches(t, "a$", "aaa", "[[2 3]]")
	wantMatches(t, "$", "ab", "[[2 2]]")
	wantMatches(t, "$", "", "[[0 0]]")
	wantMatches(t, "^|$", "ab", "[[0 0] [2 2]]")
	wantMatches(t, "^$", "", "[[0 0]]")
	wantMatches(t, "^$", "a", "[]")
	wantMatches(t, "a*$", "abaa", "[[2 4]]")
	wantMatches(t, "a|$", "aa", "[[0 1] [1 2]]")
	wantMatches(t, "a|$", "ab", "[[0 1] [2 2]]")
	wantMatches(t, "^a", "b\na", "[]")
	wantMatches(t, "a$", "a\nb", "[]")
}

// P18.1: slots are of their own match alone.
func TestSlots(t *testing.T) {
	wantMatches(t, "(a)|(b)", "abxb", "[[0 1 0 1 -1 -1] [1 2 -1 -1 1 2] [3 4 -1 -1 3 4]]")
	wantMatches(t, "(a)*", "baac", "[[0 0 -1 -1] [1 3 2 3] [4 4 -1 -1]]")
	wantMatches(t, "(a|ab)(c|bcd)", "abcdac", "[[0 4 0 1 1 4] [4 6 4 5 5 6]]")
	wantMatches(t, "(.)\\1", "aabbbcc", "[[0 2 0 1] [2 4 2 3] [5 7 5 6]]")
	wantMatches(t, "x(y)?", "xxyx", "[[0 1 -1 -1] [1 3 2 3] [3 4 -1 -1]]")
}

// P18.1: a text is bytes, whatever they are.
func TestAnyBytes(t *testing.T) {
	wantMatches(t, ".", "\x00\n\xff", "[[0 1] [1 2] [2 3]]")
	wantMatches(t, "x*", "é", "[[0 0] [1 1] [2 2]]")
	wantMatches(t, "\\n", "a\n\nb", "[[1 2] [2 3]]")
	wantMade(t, "s/[^a]/<&>/g", "a\x00\xc3a\n\xff", "a<\x00><\xc3>a<\n><\xff>", 4)
	wantMade(t, "s/x*/-/g", "é", "-\xc3-\xa9-", 3)
	wantMade(t, "s/a/\x00é\xff/", "\xfea\xfe", "\xfe\x00é\xff\xfe", 1)
}

// P18.1: a regex whose program has no instructions has no match.
func TestNoProgram(t *testing.T) {
	r := match.New(code.Program{})
	if got := Matches(r, "abc"); len(got) != 0 {
		t.Errorf("P18.1: Matches of no program: %v", got)
	}
	if got, n := Apply(r, cmd.Sub{All: true}, "abc"); got != "abc" || n != 0 {
		t.Errorf("P18.1: Apply of no program: %q, %d", got, n)
	}
}

// P18.1: of the matches, numbered from 1 on, the one with Nth (1, if it is 0) is replaced, and if All, those behind it, too.
func TestWhichMatches(t *testing.T) {
	wantMade(t, "s/a/b/", "banana", "bbnana", 1)
	wantMade(t, "s/a/b/1", "banana", "bbnana", 1)
	wantMade(t, "s/a/b/2", "banana", "banbna", 1)
	wantMade(t, "s/a/b/3", "banana", "bananb", 1)
	wantMade(t, "s/a/b/4", "banana", "banana", 0)
	wantMade(t, "s/a/b/g", "banana", "bbnbnb", 3)
	wantMade(t, "s/a/b/1g", "banana", "bbnbnb", 3)
	wantMade(t, "s/a/b/2g", "banana", "banbnb", 2)
	wantMade(t, "s/a/b/g3", "banana", "bananb", 1)
	wantMade(t, "s/a/b/4g", "banana", "banana", 0)
	wantMade(t, "s/a/b/999999999g", "banana", "banana", 0)
	wantMade(t, "s/q/b/g", "banana", "banana", 0)
	wantMade(t, "s/a/b/", "", "", 0)
	wantMade(t, "s/b*/x/", "abc", "xabc", 1)
	wantMade(t, "s/b*/x/2", "abc", "axc", 1)
	wantMade(t, "s/b*/x/3", "abc", "abcx", 1)
	wantMade(t, "s/b*/x/4", "abc", "abc", 0)
	wantMade(t, "s/b*/x/2g", "abc", "axcx", 2)
	wantMade(t, "s/^a/x/g", "aaa", "xaa", 1)
	wantMade(t, "s/^a/x/2", "aaa", "aaa", 0)
	wantMade(t, "s/$/x/g", "ab", "abx", 1)
	wantMade(t, "s/^/x/g", "", "x", 1)
}

// P18.1: what is replaced isn't looked at again, nor is the text that was made.
func TestMadeTextIsNotLookedAt(t *testing.T) {
	wantMade(t, "s/a/aa/g", "aba", "aabaa", 2)
	wantMade(t, "s/ab/a/g", "abb", "ab", 1)
	wantMade(t, "s/^a//g", "aab", "ab", 1)
	wantMade(t, "s/a//g", "banana", "bnn", 3)
	wantMade(t, "s/.*//", "abc", "", 1)
	wantMade(t, "s/a$/b/g", "aa", "ab", 1)
}

// P18.1: a replacement is its parts: a text, and of a group what it matched, the whole match too; nothing of one that wasn't matched.
func TestParts(t *testing.T) {
	wantMade(t, "s/a/<&>/", "bac", "b<a>c", 1)
	wantMade(t, "s/.*/[&]/g", "ab", "[ab]", 1)
	wantMade(t, "s/a+/&&/g", "abaa", "aabaaaa", 2)
	wantMade(t, "s/(.)(.)/\\2\\1/g", "abcde", "badce", 2)
	wantMade(t, "s/(a)(n)*/<\\2\\1&>/g", "banana", "b<naan><naan><aa>", 3)
	wantMade(t, "s/(a)|(b)/<\\1,\\2>/g", "abc", "<a,><,b>c", 2)
	wantMade(t, "s/((a)(b))c/\\3\\2\\1\\0/", "xabcx", "xbaababcx", 1)
	wantMade(t, "s/(a)(b)(c)(d)(e)(f)(g)(h)(i)/\\9\\1/", "abcdefghij", "iaj", 1)
	wantMade(t, "s/()a/\\1/g", "aba", "b", 2)
	wantMade(t, "s/x*/\\n/g", "a", "\na\n", 2)
	wantMade(t, "s/a/\\&\\\\&/", "a", "&\\a", 1)
	wantMade(t, "s/(.)\\1/<\\1>/2", "aabbcc", "aa<b>cc", 1)
}

// P18.1: of an s only its parts, Nth and All count.
func TestOtherFields(t *testing.T) {
	wantMade(t, "s/a/b/p", "aa", "ba", 1)
	wantMade(t, "s/a/b/gpw out", "aa", "bb", 2)
	x, r := sub(t, "s/a/<&>/g")
	x.Text, x.Tree = "b", nil
	if got, n := Apply(r, x, "ab"); got != "<a>b" || n != 1 {
		t.Errorf("P18.1: Apply of an s without its regex: %q, %d", got, n)
	}
	if got, n := Apply(r, cmd.Sub{}, "baa"); got != "ba" || n != 1 {
		t.Errorf("P18.1: Apply of no s: %q, %d", got, n)
	}
}

// P18.1: no match has a number below 1; those behind such a number are all of them.
func TestNumbersOfNone(t *testing.T) {
	_, r := sub(t, "s/a/b/")
	for _, nth := range []int{-1, -2, math.MinInt} {
		if got, n := Apply(r, cmd.Sub{Nth: nth}, "aa"); got != "aa" || n != 0 {
			t.Errorf("P18.1: Apply with Nth %d: %q, %d", nth, got, n)
		}
		if got, n := Apply(r, cmd.Sub{Nth: nth, All: true}, "aba"); got != "b" || n != 2 {
			t.Errorf("P18.1: Apply with Nth %d, and All: %q, %d", nth, got, n)
		}
	}
	for _, all := range []bool{false, true} {
		if got, n := Apply(r, cmd.Sub{Nth: math.MaxInt, All: all}, "aa"); got != "aa" || n != 0 {
			t.Errorf("P18.1: Apply with the greatest Nth, All %t: %q, %d", all, got, n)
		}
	}
}

// group is the part of a group, and words one of a text.
func group(number int) cmd.Part    { return cmd.Part{Group: number} }
func words(text string) cmd.Part   { return cmd.Part{Group: -1, Text: text} }
func of(parts ...cmd.Part) cmd.Sub { return cmd.Sub{Parts: parts} }

// P18.1: a group that has no slots is nothing; R9: nor does it matter, what they are.
func TestReplace(t *testing.T) {
	bracketed := func(number int) cmd.Sub { return of(words("["), group(number), words("]")) }
	for _, c := range []struct {
		about string
		x     cmd.Sub
		slots []int
		want  string
	}{
		{"no parts", of(), []int{0, 5}, ""},
		{"texts", of(words("a"), words(""), words("bc")), []int{0, 5}, "abc"},
		{"a text without slots", of(words("a")), nil, "a"},
		{"the whole", bracketed(0), []int{1, 3}, "[bc]"},
		{"groups", of(group(2), group(0), group(1), group(2)), []int{0, 5, 0, 1, 3, 5}, "deabcdeade"},
		{"a group that matched the empty text", bracketed(1), []int{1, 3, 2, 2}, "[]"},
		{"at the text's end", bracketed(1), []int{5, 5, 5, 5}, "[]"},
		{"not matched", bracketed(1), []int{1, 3, -1, -1}, "[]"},
		{"outside of the match", bracketed(1), []int{1, 3, 0, 5}, "[abcde]"},
		{"no slots", bracketed(0), nil, "[]"},
		{"no slots of the group", bracketed(1), []int{0, 5}, "[]"},
		{"the last slots", bracketed(2), []int{0, 1, 1, 2, 2, 3}, "[c]"},
		{"behind the last slots", bracketed(3), []int{0, 1, 1, 2, 2, 3}, "[]"},
		{"one slot", bracketed(0), []int{0}, "[]"},
		{"one slot of the group", bracketed(1), []int{0, 5, 2}, "[]"},
		{"only a begin", bracketed(0), []int{2, -1}, "[]"},
		{"only an end", bracketed(0), []int{-1, 2}, "[]"},
		{"an end ahead of the begin", bracketed(0), []int{3, 2}, "[]"},
		{"an end behind the text", bracketed(0), []int{2, 6}, "[]"},
		{"all behind the text", bracketed(0), []int{6, 7}, "[]"},
		{"the greatest slots", bracketed(0), []int{0, math.MaxInt}, "[]"},
		{"the least slots", bracketed(0), []int{math.MinInt, 2}, "[]"},
		{"no group's number", bracketed(-2), []int{0, 5, 1, 2}, "[]"},
		{"the least number, whose double is 0", bracketed(math.MinInt), []int{0, 5, 1, 2}, "[]"},
		{"the greatest number", bracketed(math.MaxInt), []int{0, 5, 1, 2}, "[]"},
		{"a number whose double is 2", bracketed(math.MinInt + 1), []int{0, 5, 1, 2}, "[]"},
		{"a number whose double is below 0", bracketed(1 << 62), []int{0, 5}, "[]"},
		{"a group with a text", of(cmd.Part{Group: 0, Text: "x"}), []int{0, 2}, "ab"},
	} {
		if got := Replace(c.x, "abcde", c.slots); got != c.want {
			t.Errorf("P18.1: Replace: %s: %q, want %q", c.about, got, c.want)
		}
	}
}

// R9: an s that has more groups than its regex is no reason to panic.
func TestGroupsOfOthers(t *testing.T) {
	_, r := sub(t, "s/(a)/x/")
	x := of(group(1), group(2), group(-3), group(math.MaxInt), words("-"))
	x.All = true
	if got, n := Apply(r, x, "aba"); got != "a-ba-" || n != 2 {
		t.Errorf("R9: Apply with groups that aren't there: %q, %d", got, n)
	}
}

// R6: what is handed in isn't changed, spare room included; R8: all calls answer the same again.
func TestNothingIsChanged(t *testing.T) {
	x, r := sub(t, "s/(a)|(b)/<\\1&\\2>/2g")
	parts := append(make([]cmd.Part, 0, 9), x.Parts...)
	slots := append(make([]int, 0, 9), 1, 2, -1, -1, 1, 2)
	x.Parts = parts
	had := fmt.Sprint(x, parts[:9], slots[:9])
	for range 3 {
		if got := fmt.Sprint(Matches(r, "abcb")); got != "[[0 1 0 1 -1 -1] [1 2 -1 -1 1 2] [3 4 -1 -1 3 4]]" {
			t.Errorf("R8: Matches: %s", got)
		}
		if got := Replace(x, "abcb", slots); got != "<bb>" {
			t.Errorf("R8: Replace: %s", got)
		}
		if got, n := Apply(r, x, "abcb"); got != "a<bb>c<bb>" || n != 2 {
			t.Errorf("R8: Apply: %s, %d", got, n)
		}
		if got, n := Apply(r, x, "xx"); got != "xx" || n != 0 {
			t.Errorf("R8: Apply: %s, %d", got, n)
		}
	}
	if now := fmt.Sprint(x, parts[:9], slots[:9]); now != had {
		t.Errorf("R6: it was changed: %s, not %s", now, had)
	}
}

// R6: no list of an answer shares memory with another one, of this answer or of another one.
func TestAnswersAreNew(t *testing.T) {
	_, r := sub(t, "s/(a)|(b)/x/")
	first, second := Matches(r, "abab"), Matches(r, "abab")
	want := fmt.Sprint(second)
	for i, slots := range first {
		slots = slots[:cap(slots)]
		for j := range slots {
			slots[j] = -7
		}
		first[i] = nil
		if rest := fmt.Sprint(first[i+1:]); rest != fmt.Sprint(second[i+1:]) {
			t.Errorf("R6: lists of one answer share memory: %s", rest)
		}
	}
	clear(first[:cap(first)])
	if fmt.Sprint(second) != want || fmt.Sprint(Matches(r, "abab")) != want {
		t.Errorf("R6: answers share memory: %v", second)
	}
}

// P7: long texts with many matches come to an end.
func TestLong(t *testing.T) {
	const many = 20000
	text := strings.Repeat("ab", many)
	wantMade(t, "s/a/<&>/g", text, strings.Repeat("<a>b", many), many)
	wantMade(t, "s/x*/-/g", text, strings.Repeat("-a-b", many)+"-", 2*many+1)
	wantMade(t, "s/b/c/20000", text, text[:len(text)-1]+"c", 1)
	wantMade(t, "s/.*/&&/", text, text+text, 1)
	x, r := sub(t, "s/a/b/")
	x.Parts = slices.Repeat([]cmd.Part{group(0), words("-")}, many)
	if got, n := Apply(r, x, "xa"); got != "x"+strings.Repeat("a-", many) || n != 1 {
		t.Errorf("P18.1: a replacement of many parts: %d bytes, %d", len(got), n)
	}
}
