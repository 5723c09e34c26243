package addr

import (
	"fmt"
	"reflect"
	"strings"
	"testing"

	"placket/api"
	"placket/bre"
	"placket/ere"
	"placket/tree"
)

// The types and calls are just those of the chapter (R11).
var (
	_ = struct {
		Kind Kind
		Line int
		Text string
		Tree tree.Node
	}(Address{})
	_ = struct {
		A, B Address
		Not  bool
	}(Guard{})

	_ func(s string, at int, extended, second bool) (Address, []api.Mark, int, api.Errno) = Parse
	_ func(s string, at int, extended bool) (Guard, []api.Mark, int, api.Errno)           = ParseGuard
	_ func(a, b Address) bool                                                             = Same
	_ func(a, b Guard) bool                                                               = SameGuard
)

// P12.1: the kinds' numbers.
func TestKinds(t *testing.T) {
	for number, kind := range []Kind{None, Line, Last, Regex, Plus} {
		if kind != Kind(number) {
			t.Errorf("P12.1: the kind %d is %d", number, kind)
		}
	}
}

// both are the two values of an option.
var both = []bool{false, true}

// fronts are bytes that stand ahead of what is read, and don't matter.
var fronts = []string{"", "x", "7", " ", "\n", "\\", "[", "/", "1,", "!", "$", "+", "\\x", "/[a\n", "\xff\x00"}

// answer is what Parse or ParseGuard answers: it is an Address, or a Guard.
type answer struct {
	it    any
	marks []api.Mark
	place int
	e     api.Errno
}

// parsed and guarded are what the calls answer.
func parsed(a Address, marks []api.Mark, place int, e api.Errno) answer {
	return answer{a, marks, place, e}
}

func guarded(g Guard, marks []api.Mark, place int, e api.Errno) answer {
	return answer{g, marks, place, e}
}

// right is an address or a guard, the place behind it, and its marks.
func right(it any, place int, marks ...api.Mark) answer { return answer{it, marks, place, api.OK} }

// wrong is an error of Parse, and its place; wrongGuard is one of ParseGuard.
func wrong(place int, e api.Errno) answer      { return answer{Address{}, nil, place, e} }
func wrongGuard(place int, e api.Errno) answer { return answer{Guard{}, nil, place, e} }

func (a answer) String() string {
	return fmt.Sprintf("%.300s, marks %v, place %d, error %d", fmt.Sprintf("%#v", a.it), a.marks, a.place, a.e)
}

// marksFarther are marks, so many places farther on.
func marksFarther(marks []api.Mark, by int) []api.Mark {
	var all []api.Mark
	for _, mark := range marks {
		all = append(all, api.Mark{At: mark.At + by, Word: mark.Word})
	}
	return all
}

// farther is an answer about the same bytes, so many places farther on.
func (a answer) farther(by int) answer {
	return answer{a.it, marksFarther(a.marks, by), a.place + by, a.e}
}

// is tells whether two answers are the same in all fields; a list that is empty may be nil.
func (a answer) is(b answer) bool {
	sameMarks := len(a.marks) == 0 && len(b.marks) == 0 || reflect.DeepEqual(a.marks, b.marks)
	return sameMarks && a.place == b.place && a.e == b.e && reflect.DeepEqual(a.it, b.it)
}

// wantParse holds an answer of Parse at each of the fronts.
func wantParse(t *testing.T, s string, extended, second bool, want answer) {
	t.Helper()
	for _, front := range fronts {
		got, far := parsed(Parse(front+s, len(front), extended, second)), want.farther(len(front))
		if !got.is(far) {
			t.Errorf("P12.1: Parse(%.100q, %d, %t, %t): %v, want %v", front+s, len(front), extended, second, got, far)
			return
		}
	}
}

// wantEach holds an answer that doesn't depend on the options.
func wantEach(t *testing.T, s string, want answer) {
	t.Helper()
	for _, extended := range both {
		for _, second := range both {
			wantParse(t, s, extended, second, want)
		}
	}
}

// wantBefore holds that such an answer stays as it is, whatever stands behind the text's end.
func wantBefore(t *testing.T, s string, backs []string, want answer) {
	t.Helper()
	wantEach(t, s, want)
	for _, back := range backs {
		wantEach(t, s+back, want)
	}
}

// line, last and plus are addresses.
func line(n int) Address { return Address{Kind: Line, Line: n} }
func last() Address      { return Address{Kind: Last} }
func plus(n int) Address { return Address{Kind: Plus, Line: n} }

// parseRegexOf is what the regexes' own layers answer.
func parseRegexOf(text string, extended bool) (tree.Node, []api.Mark, int, api.Errno) {
	if extended {
		return ere.Parse(text)
	}
	return bre.Parse(text)
}

// regexOf is the address of a regex's text, which is right, and the regex's own marks.
func regexOf(text string, extended bool) (Address, []api.Mark) {
	node, marks, place, e := parseRegexOf(text, extended)
	if e != api.OK {
		panic(fmt.Sprintf("no regex: %q: %d at %d", text, e, place))
	}
	return Address{Kind: Regex, Text: text, Tree: node}, marks
}

// wantRegex holds the address of a regex that begins at a place of the text, whatever stands behind its delimiter.
func wantRegex(t *testing.T, s, text string, begin int, extended bool) {
	t.Helper()
	address, marks := regexOf(text, extended)
	want := right(address, len(s), marksFarther(marks, begin)...)
	for _, back := range []string{"", "p", "/", "I", ",", "\n", "\\", "]", " ", "!", s} {
		for _, second := range both {
			wantParse(t, s+back, extended, second, want)
		}
	}
}

// wantRegexes holds such an address in both kinds of regexes.
func wantRegexes(t *testing.T, s, text string, begin int) {
	t.Helper()
	for _, extended := range both {
		wantRegex(t, s, text, begin, extended)
	}
}

// wantWrongRegex holds the error of one kind of regexes, also as that of a second address.
func wantWrongRegex(t *testing.T, s string, extended bool, place int, e api.Errno) {
	t.Helper()
	for _, second := range both {
		wantParse(t, s, extended, second, wrong(place, e))
	}
}

// outside are numbers that aren't places of a text.
func outside(s string) []int {
	return []int{-1, -2, len(s) + 1, len(s) + 2, 1 << 40, -1 << 63, 1<<63 - 1}
}

// P12.1 and P7: a place that isn't one of the text is told ahead of all else.
func TestPlaceOutsideTheText(t *testing.T) {
	for _, s := range []string{"", "p", "1", "0", "1234567890", "$", "/a/", "//", "/a", "\\", "\\\n", "+", "+1", "1,", "1!!", "!", strings.Repeat("a", 100)} {
		for _, at := range outside(s) {
			for _, extended := range both {
				for _, second := range both {
					if got := parsed(Parse(s, at, extended, second)); !got.is(wrong(0, api.ErrRange)) {
						t.Errorf("P12.1: Parse(%q, %d, %t, %t): %v", s, at, extended, second, got)
					}
				}
				if got := guarded(ParseGuard(s, at, extended)); !got.is(wrongGuard(0, api.ErrRange)) {
					t.Errorf("P12.1: ParseGuard(%q, %d, %t): %v", s, at, extended, got)
				}
			}
		}
	}
}

// P12.1: no address begins at any other byte, nor at the text's end.
func TestNoAddress(t *testing.T) {
	wantEach(t, "", right(Address{}, 0))
	for i := range 256 {
		b := string([]byte{byte(i)})
		if strings.Contains("0123456789$/\\", b) {
			continue
		}
		for _, s := range []string{b, b + "1", b + "/a/", b + "$", b + b, b + "\\"} {
			for _, extended := range both {
				wantParse(t, s, extended, false, right(Address{}, 0))
				if b != "+" {
					wantParse(t, s, extended, true, right(Address{}, 0))
				}
			}
		}
	}
	for _, s := range []string{" 1", "\t$", ",1", "-1", "~2", "²", "٣", "\xff1", "\n1", "!1", "{", "}", "#"} {
		wantEach(t, s, right(Address{}, 0))
	}
}

// P12.1: lines' numbers, from 1 on.
func TestLines(t *testing.T) {
	backs := []string{"p", " ", ",", ",2", "!", "\n", "$", "/a/", "+1", "-", ".5", "~2", "\x00", "\xb2", "²"}
	for s, n := range map[string]int{"1": 1, "9": 9, "10": 10, "42": 42, "007": 7, "000000001": 1, "100000000": 100000000, "123456789": 123456789, "999999999": 999999999, "012345678": 12345678} {
		wantBefore(t, s, backs, right(line(n), len(s)))
	}
	for _, s := range []string{"0", "00", "0000", "000000000"} {
		wantBefore(t, s, backs, wrong(0, api.ErrAddr))
	}
	// More than nine digits are no number: that is told ahead of a 0.
	for _, s := range []string{"1234567890", "0000000000", "0000000001", "9999999999", strings.Repeat("9", 20), strings.Repeat("0", 4000), strings.Repeat("1", 100000)} {
		wantBefore(t, s, backs, wrong(0, api.ErrLong))
	}
	// Digits ahead of the place don't count.
	if got := parsed(Parse("1203", 2, false, false)); !got.is(right(line(3), 4)) {
		t.Errorf("P12.1: Parse(1203, 2): %v", got)
	}
	if got := parsed(Parse("10", 1, false, false)); !got.is(wrong(1, api.ErrAddr)) {
		t.Errorf("P12.1: Parse(10, 1): %v", got)
	}
}

// P12.1: the last line.
func TestLast(t *testing.T) {
	wantBefore(t, "$", []string{"p", "$", "1", " ", "!", ",", "\n", "/", "+1"}, right(last(), 1))
}

// P12.1: a + and a number, as the second address only.
func TestPlus(t *testing.T) {
	for _, extended := range both {
		for s, n := range map[string]int{"+0": 0, "+1": 1, "+9": 9, "+10": 10, "+007": 7, "+000": 0, "+000000000": 0, "+999999999": 999999999} {
			for _, back := range []string{"", "p", " 1", "!", ",2", "+1", "\n", "/a/", "-", "\xb2"} {
				wantParse(t, s+back, extended, true, right(plus(n), len(s), api.Mark{At: 0, Word: "+"}))
				wantParse(t, s+back, extended, false, right(Address{}, 0))
			}
		}
		for _, s := range []string{"+", "+x", "+ 1", "++1", "+-1", "+$", "+/a/", "+\n1", "+,1", "+!", "+\\", "+²", "+\xff"} {
			wantParse(t, s, extended, true, wrong(1, api.ErrForm))
			wantParse(t, s, extended, false, right(Address{}, 0))
		}
		for _, s := range []string{"+1234567890", "+0000000000", "+9999999999p", "+" + strings.Repeat("1", 4000)} {
			wantParse(t, s, extended, true, wrong(1, api.ErrLong))
			wantParse(t, s, extended, false, right(Address{}, 0))
		}
	}
}

// P12.1: regexes between slashes, or behind a backslash: the text, without what hides a delimiter, and its tree.
func TestRegexes(t *testing.T) {
	for s, text := range map[string]string{
		"/a/": "a", "/abc/": "abc", "/ a /": " a ", "/^a$/": "^a$", "/a*/": "a*", "/./": ".", "/,/": ",", "/!/": "!", "/#/": "#", "/;}/": ";}", "/1/": "1",
		"/a[bc]d/": "a[bc]d", "/[/]/": "[/]", "/[^/]*/": "[^/]*", "/[]/]/": "[]/]", "/[^]/]x/": "[^]/]x", "/x[[:digit:]]/": "x[[:digit:]]", "/[\\]/": "[\\]", "/[\\/]/": "[\\/]",
		"/\\//": "/", "/a\\/b\\/c/": "a/b/c", "/\\.\\*/": "\\.\\*", "/\\n/": "\\n", "/\\[/": "\\[", "/\\\\/": "\\\\", "/\\\\\\//": "\\\\/", "/\\t\\w\\W\\s\\S/": "\\t\\w\\W\\s\\S",
		"/^/": "^", "/$/": "$", "/^$/": "^$", "/\xff\x00/": "\xff\x00", "/é/": "é", "/\t/": "\t", "/\r/": "\r",
	} {
		wantRegexes(t, s, text, 1)
		wantRegexes(t, "\\"+s, text, 2)
	}
}

// P12.1: a regex is of chapter 5, if the script is extended, else of 4.
func TestKindsOfRegexes(t *testing.T) {
	for _, text := range []string{"(a)", "a|b", "a+", "a?b", "a{2}", "\\(a\\)", "a^b$c", "a\\|b", "a\\{2\\}", "a\\+", "^^a"} {
		wantRegexes(t, "/"+text+"/", text, 1)
		basic, _ := regexOf(text, false)
		extended, _ := regexOf(text, true)
		if Same(basic, extended) {
			t.Errorf("P12.1: %q has one tree in both kinds", text)
		}
	}
	for text, e := range map[string]api.Errno{"*": api.ErrRepeat, "*a": api.ErrRepeat, "+": api.ErrRepeat, "a|?": api.ErrRepeat, "^*": api.ErrRepeat, "a{": api.ErrBound, "ab)": api.ErrGroup, "a(": api.ErrGroup, "\\(*a\\)\\1": api.ErrBack} {
		wantRegex(t, "/"+text+"/", text, 1, false)
		wantWrongRegex(t, "/"+text+"/", true, 1, e)
	}
	for text, e := range map[string]api.Errno{"(a)\\1": api.ErrBack, "\\{": api.ErrRepeat, "\\+": api.ErrRepeat, "a\\{": api.ErrBound, "a\\)": api.ErrGroup, "a\\(": api.ErrGroup} {
		wantRegex(t, "/"+text+"/", text, 1, true)
		wantWrongRegex(t, "/"+text+"/", false, 1, e)
	}
}

// P12.1: each byte as the delimiter behind a backslash, but a backslash and the byte A.
func TestEachDelimiter(t *testing.T) {
	for i := range 256 {
		d := string([]byte{byte(i)})
		if d == "\\" || d == "\n" {
			continue
		}
		body := "q"
		if d == body {
			body = "z"
		}
		wantRegexes(t, "\\"+d+body+d, body, 2)
		wantRegexes(t, "\\"+d+body+"\\\\"+body+d, body+"\\\\"+body, 2)
		if !strings.Contains("[]^", d) {
			wantRegexes(t, "\\"+d+body+"["+d+body+"]"+d, body+"["+d+body+"]", 2)
		}
		if !strings.Contains("^$*+?{|().[", d) {
			wantRegexes(t, "\\"+d+body+"\\"+d+"\\"+d+body+d, body+d+d+body, 2)
		}
		wantEach(t, "\\"+d, wrong(2, api.ErrEnd))
		wantEach(t, "\\"+d+body, wrong(3, api.ErrEnd))
		wantEach(t, "\\"+d+d, wrong(2, api.ErrForm))
	}
	for _, s := range []string{"\\", "\\\\", "\\\\a\\", "\\\\a\\\\", "\\\n", "\\\na\n", "\\\na\\\n", "\\\n\n", "\\\\\n", "\\\\[\n\\", "\\\n[\n]\n", "\\\\\\(\\"} {
		wantEach(t, s, wrong(0, api.ErrAddr))
	}
}

// P12.1: a delimiter that means something in a regex, and a backslash ahead of it: they stand for it alone, and so for what it means.
func TestDelimitersOfRegexes(t *testing.T) {
	for s, text := range map[string]string{
		"\\.a\\.b.": "a.b", "\\*a\\*b*": "a*b", "\\^\\^a^": "^a", "\\$a\\$$": "a$", "\\|a\\|b|": "a|b", "\\nanb": "a", "\\na\\nbn": "anb", "\\1a\\11": "a1",
		"\\ a\\ b ": "a b", "\\]a[b]c]": "a[b]c", "\\]a\\]]": "a]", "\\^[^a]^": "[^a]", "\\[a[": "a", "\\,[,]\\,,": "[,],", "\\!a\\!!": "a!", "\\+a\\++": "a+",
	} {
		// Of some of these the text goes on behind the delimiter.
		end := strings.LastIndex(s, s[1:2]) + 1
		wantRegexes(t, s[:end], text, 2)
	}
	wantRegex(t, "\\(a)(", "a)", 2, false)
	wantWrongRegex(t, "\\(a)(", true, 2, api.ErrGroup)
	wantRegex(t, "\\(\\(a)(", "(a)", 2, true)
	wantRegex(t, "\\{a\\{2}{", "a{2}", 2, true)
	wantEach(t, "\\[\\[a[", wrong(2, api.ErrEnd))
	wantEach(t, "\\[[a]", wrong(2, api.ErrForm))
}

// P12.1: what is wrong between delimiters is told ahead of what is wrong with the regex, at its own place.
func TestWrongDelimiters(t *testing.T) {
	for s, place := range map[string]int{"/a\nb/": 2, "/\n/": 1, "/\n": 1, "/a\\\nb/": 3, "/[\n]/": 2, "/[^]\n]/": 4, "/[/\n": 3, "/\\(\n/": 3, "/*[\n": 3, "\\,a\n,": 3, "\\,\\\n,": 3, "/a\\/\n/": 4} {
		wantEach(t, s, wrong(place, api.ErrForm))
	}
	for _, s := range []string{"/", "/a", "/a\\", "/\\/", "/a\\/b", "/\\\\\\/", "/[/", "/[]/", "/[^]/", "/[/][/", "/\\(", "/a\\{", "/*\\q", "\\,a/", "\\,\\,", "\\,", "\\[\\[", "/" + strings.Repeat("a", 5000)} {
		wantEach(t, s, wrong(len(s), api.ErrEnd))
	}
	for _, back := range []string{"", "p", "a/", "/", "\n", "\\("} {
		wantEach(t, "//"+back, wrong(1, api.ErrForm))
		wantEach(t, "\\,,"+back, wrong(2, api.ErrForm))
	}
}

// P12.1: a regex's error is told at the place where it begins, wherever it stands within.
func TestWrongRegexes(t *testing.T) {
	for _, c := range []struct {
		text            string
		basic, extended api.Errno
	}{
		{"ab[[:foo:]]", api.ErrClass, api.ErrClass},
		{"ab[z-b]", api.ErrRange, api.ErrRange},
		{"ab[[:digit:]", api.ErrEnd, api.ErrEnd},
		{"ab\\q", api.ErrForm, api.ErrForm},
		{"ab\\0", api.ErrForm, api.ErrForm},
		{"ab\\1", api.ErrBack, api.ErrBack},
		{"\\(a\\)\\2", api.ErrBack, api.ErrBack},
		{"abc\\(d", api.ErrGroup, api.OK},
		{"abc\\)", api.ErrGroup, api.OK},
		{"a\\|\\+", api.ErrRepeat, api.OK},
		{"a\\|\\{2\\}", api.ErrRepeat, api.OK},
		{"xa\\{3,2\\}", api.ErrBound, api.OK},
		{"ab\\{256\\}", api.ErrBound, api.OK},
		{"ab" + strings.Repeat("\\(", 13), api.ErrDeep, api.OK},
		{"abc(d", api.OK, api.ErrGroup},
		{"abc)", api.OK, api.ErrGroup},
		{"a|+", api.OK, api.ErrRepeat},
		{"xa{3,2}", api.OK, api.ErrBound},
		{"ab" + strings.Repeat("(", 13), api.OK, api.ErrDeep},
	} {
		for _, extended := range both {
			e := c.basic
			if extended {
				e = c.extended
			}
			if e == api.OK {
				wantRegex(t, "/"+c.text+"/", c.text, 1, extended)
				continue
			}
			for _, back := range []string{"", "p", ",1", "\n", "/"} {
				wantWrongRegex(t, "/"+c.text+"/"+back, extended, 1, e)
				wantWrongRegex(t, "\\!"+c.text+"!"+back, extended, 2, e)
			}
		}
	}
}

// P12.1: how long a regex may be is told of its text, without what hides a delimiter.
func TestLongRegexes(t *testing.T) {
	for _, b := range []string{"a", "/", "."} {
		written := strings.ReplaceAll(b, "/", "\\/")
		most := strings.Repeat(b, api.MaxRegex)
		wantRegexes(t, "/"+strings.Repeat(written, api.MaxRegex)+"/", most, 1)
		wantRegexes(t, "\\,"+most+",", most, 2)
		for _, n := range []int{1, 2, 5000} {
			wantEach(t, "/"+strings.Repeat(written, api.MaxRegex+n)+"/", wrong(1, api.ErrLong))
			wantEach(t, "\\,"+most+strings.Repeat(b, n)+",p", wrong(2, api.ErrLong))
		}
	}
	// It is told ahead of all else that is wrong with the regex.
	wantEach(t, "/\\q["+strings.Repeat("]", api.MaxRegex)+"/", wrong(1, api.ErrLong))
}

// P12.1: a regex's marks are at the place where it begins, each plus its own.
func TestMarks(t *testing.T) {
	node := func(text string, extended bool) Address {
		address, _ := regexOf(text, extended)
		return address
	}
	for _, second := range both {
		wantParse(t, "/a\\+/", false, second, right(node("a\\+", false), 5, api.Mark{At: 2, Word: "\\+"}))
		wantParse(t, "/a\\?b\\|c/p", false, second, right(node("a\\?b\\|c", false), 9, api.Mark{At: 2, Word: "\\?"}, api.Mark{At: 5, Word: "\\|"}))
		wantParse(t, "\\xa\\+xp", false, second, right(node("a\\+", false), 6, api.Mark{At: 3, Word: "\\+"}))
		wantParse(t, "/(a)\\1\\w/", true, second, right(node("(a)\\1\\w", true), 9, api.Mark{At: 4, Word: "\\1"}, api.Mark{At: 6, Word: "\\w"}))
		wantParse(t, "/a+/", true, second, right(node("a+", true), 4))
		wantParse(t, "/\\(a\\)\\1/", false, second, right(node("\\(a\\)\\1", false), 9))
		// What hid a delimiter isn't of the regex: a mark's own place doesn't count it.
		wantParse(t, "/\\/a\\+/", false, second, right(node("/a\\+", false), 7, api.Mark{At: 3, Word: "\\+"}))
		wantParse(t, "\\,\\,\\,\\S,", true, second, right(node(",,\\S", true), 9, api.Mark{At: 4, Word: "\\S"}))
	}
}

// R4, R6, R8: what was answered is the caller's: no later answer can tell what became of it.
func TestNewMemory(t *testing.T) {
	const s = "/a\\+\\w/,/b\\?\\s/!p"
	first, firstMarks, _, _ := Parse(s, 0, false, false)
	guard, marks, _, _ := ParseGuard(s, 0, false)
	want := []api.Mark{{At: 2, Word: "\\+"}, {At: 4, Word: "\\w"}, {At: 10, Word: "\\?"}, {At: 12, Word: "\\s"}}
	for _, list := range [][]api.Mark{firstMarks, marks} {
		spare := list[:cap(list)]
		for i := range spare {
			spare[i] = api.Mark{At: -1, Word: "x"}
		}
	}
	if got := parsed(Parse(s, 0, false, false)); !got.is(right(first, 7, want[:2]...)) {
		t.Errorf("P12.1: Parse again: %v", got)
	}
	if got := guarded(ParseGuard(s, 0, false)); !got.is(right(guard, 16, want...)) {
		t.Errorf("P12.1: ParseGuard again: %v", got)
	}
	_, plusMarks, _, _ := Parse("+1", 0, false, true)
	plusMarks[0].Word = "x"
	wantParse(t, "+1", false, true, right(plus(1), 2, api.Mark{At: 0, Word: "+"}))
}
