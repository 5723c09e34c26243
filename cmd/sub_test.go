package cmd

import (
	"fmt"
	"strings"
	"testing"

	"placket/api"
	"placket/bre"
	"placket/ere"
	"placket/tree"
)

// parseRegexOf is what the regexes' own layers answer.
func parseRegexOf(text string, extended bool) (tree.Node, []api.Mark, int, api.Errno) {
	if extended {
		return ere.Parse(text)
	}
	return bre.Parse(text)
}

// subOf is an s without flags, of a regex that is right.
func subOf(regex string, extended bool, parts ...Part) Sub {
	node, _, place, e := parseRegexOf(regex, extended)
	if e != api.OK {
		panic(fmt.Sprintf("no regex: %q: %d at %d", regex, e, place))
	}
	return Sub{Text: regex, Tree: node, Parts: parts}
}

// text and group are parts.
func text(s string) Part { return Part{Group: -1, Text: s} }
func group(n int) Part   { return Part{Group: n} }

// wantSub holds an s without an address, whatever of what can end it stands behind; the marks are those of its regex.
func wantSub(t *testing.T, s string, extended bool, x Sub, marks ...api.Mark) {
	t.Helper()
	c := Command{Name: 's', Sub: x}
	for _, back := range []string{"", ";", "\n", "#", ";}", "\np"} {
		wantParse(t, s+back, extended, right(c, len(s), marks...))
		wantParse(t, s+" \t"+back, extended, right(c, len(s)+2, marks...))
	}
	wantParse(t, s+"}", extended, right(c, len(s), append(marks[:len(marks):len(marks)], mark(len(s), "}"))...))
}

// wantSubs holds such an s in scripts of both kinds.
func wantSubs(t *testing.T, s, regex string, parts ...Part) {
	t.Helper()
	for _, extended := range both {
		wantSub(t, s, extended, subOf(regex, extended, parts...))
	}
}

// P13.1: the chapter's example.
func TestExample(t *testing.T) {
	x := subOf("a", false, text("<"), group(0), text(">"))
	x.Nth, x.Print = 2, true
	wantSub(t, "s/a/<&>/2p", false, x)
}

// P13.1: a regex and a replacement, without what hides a delimiter.
func TestSubs(t *testing.T) {
	wantSubs(t, "s/a/b/", "a", text("b"))
	wantSubs(t, "s/a//", "a")
	wantSubs(t, "s/[/]/x/", "[/]", text("x"))
	wantSubs(t, "s/\\//\\//", "/", text("/"))
	wantSubs(t, "s,a\\,,/\\,/,", "a,", text("/,/"))
	wantSubs(t, "s/^a$/^$/", "^a$", text("^$"))
	wantSubs(t, "s/ a / b /", " a ", text(" b "))
	wantSubs(t, "s;a;b;", "a", text("b"))
	wantSubs(t, "s#a#b#", "a", text("b"))
	wantSubs(t, "s}a}b}", "a", text("b"))
	wantSubs(t, "s a b ", "a", text("b"))
	wantSubs(t, "sgagbg", "a", text("b"))
	wantSubs(t, "s/a/;}#p/", "a", text(";}#p"))
	wantSubs(t, "s/[\\]/[/", "[\\]", text("["))
	wantSubs(t, "s/\xff/\x00\xff/", "\xff", text("\x00\xff"))
	wantSub(t, "s|a\\|b|\\||", false, subOf("a|b", false, text("|")))
	wantSub(t, "s|a\\|b|\\||", true, subOf("a|b", true, text("|")))
}

// P13.1: each byte as the delimiter, but a backslash and the byte A.
func TestEachDelimiter(t *testing.T) {
	for i := range 256 {
		d := string([]byte{byte(i)})
		body, other := "q", "u"
		if d == body || d == other {
			body, other = "i", "o"
		}
		s, y := "s"+d+body+d+other+d, "y"+d+body+d+other+d
		if d == "\\" || d == "\n" {
			for _, s := range []string{s, y, "s" + d, "y" + d} {
				wantEach(t, s, wrong(1, api.ErrForm))
			}
			continue
		}
		for _, extended := range both {
			wantParse(t, s, extended, right(Command{Name: 's', Sub: subOf(body, extended, text(other))}, len(s)))
			wantParse(t, y, extended, right(Command{Name: 'y', Table: tableFrom(body, other)}, len(y)))
		}
		wantEach(t, "s"+d+body+d+other, wrong(5, api.ErrEnd))
		wantEach(t, "y"+d+body+d+other, wrong(5, api.ErrEnd))
		wantEach(t, "s"+d+d, wrong(2, api.ErrForm))
		// A delimiter that a backslash hid stands for itself, so that an & is the whole match.
		if d != "&" {
			s = "s" + d + body + d + "\\" + d + "\\" + d + d
			wantParse(t, s, false, right(Command{Name: 's', Sub: subOf(body, false, text(d+d))}, len(s)))
		}
		y = "y" + d + body + d + "\\" + d + d
		wantEach(t, y, right(Command{Name: 'y', Table: tableFrom(body, d)}, len(y)))
	}
	wantEach(t, "s&a&x\\&y&", right(Command{Name: 's', Sub: subOf("a", false, text("x"), group(0), text("y"))}, 9))
	wantParse(t, "s1\\(a\\)1\\1\\01", false, right(Command{Name: 's', Sub: subOf("\\(a\\)", false, text("1"), group(0))}, 13))
	wantEach(t, "snan\\nx\\\\n", right(Command{Name: 's', Sub: subOf("a", false, text("nx\\"))}, 10))
	for _, s := range []string{"s", "y"} {
		wantEach(t, s, wrong(1, api.ErrEnd))
		wantEach(t, "1,2 "+s, wrong(5, api.ErrEnd))
		wantEach(t, "1"+s+"\\", wrong(2, api.ErrForm))
		wantEach(t, s+"\n/a/b/", wrong(1, api.ErrForm))
	}
}

// P13.1: the parts of a replacement: bytes that follow one another are one part.
func TestReplacements(t *testing.T) {
	const nine = "\\(a\\)\\(b\\)\\(c\\)\\(d\\)\\(e\\)\\(f\\)\\(g\\)\\(h\\)\\(i\\)"
	for replacement, parts := range map[string][]Part{
		"": nil, "&": {group(0)}, "\\0": {group(0)}, "\\1": {group(1)}, "\\9": {group(9)}, "&&": {group(0), group(0)}, "\\1\\1\\2": {group(1), group(1), group(2)}, "x": {text("x")}, "xyz": {text("xyz")},
		"<&>": {text("<"), group(0), text(">")}, "\\10": {group(1), text("0")}, "0\\01": {text("0"), group(0), text("1")}, "\\&": {text("&")}, "\\\\": {text("\\")}, "\\\\1": {text("\\1")}, "\\\\&": {text("\\"), group(0)}, "\\\\\\&": {text("\\&")}, "\\\\\\1": {text("\\"), group(1)},
		"\\n": {text("\n")}, "\\\n": {text("\n")}, "a\\nb": {text("a\nb")}, "a\\\nb\\n\\q": {text("a\nb\nq")}, "\\/": {text("/")}, "\\/\\/": {text("//")}, "\\q\\.\\*": {text("q.*")}, "\\t\\w\\N": {text("twN")}, "n": {text("n")}, "\\\\n": {text("\\n")}, "\\(\\)": {text("()")}, "[a]": {text("[a]")}, "[\\/": {text("[/")}, "\\\xff\\\x00": {text("\xff\x00")}, "²\\²": {text("²²")},
		"a&b\\3c\\0\\nd&": {text("a"), group(0), text("b"), group(3), text("c"), group(0), text("\nd"), group(0)}, "\\ &\\\t": {text(" "), group(0), text("\t")}, "\\\\\\\\": {text("\\\\")},
	} {
		wantSub(t, "s/"+nine+"/"+replacement+"/", false, subOf(nine, false, parts...))
	}
	for i := range 256 {
		b := string([]byte{byte(i)})
		if !strings.Contains("/&\\\n", b) {
			wantSub(t, "s/a/x"+b+"y/", false, subOf("a", false, text("x"+b+"y")))
		}
		if !strings.Contains("n0123456789", b) {
			wantSub(t, "s/a/x\\"+b+"y/", false, subOf("a", false, text("x"+b+"y")))
		}
	}
}

// P13.1: a group that isn't there is told where the replacement begins.
func TestGroupsOfReplacements(t *testing.T) {
	regexes := [2][]string{{"a", "\\(a\\)", "\\(a\\)\\(b\\)", "\\(\\(a\\)b\\)\\(c\\)", "\\(a\\)\\{0\\}"}, {"a", "(a)", "(a)|(b)", "((a)b)(c)", "(a){0}"}}
	counts := []int{0, 1, 2, 3, 1}
	for i, extended := range both {
		for j, regex := range regexes[i] {
			for n := range 10 {
				s := fmt.Sprintf("s/%s/x&\\%d/", regex, n)
				if n <= counts[j] {
					wantSub(t, s, extended, subOf(regex, extended, text("x"), group(0), group(n)))
					continue
				}
				for _, back := range []string{"", "p", "k", "gg", "0"} {
					wantParse(t, s+back, extended, wrong(3+len(regex), api.ErrBack))
				}
			}
		}
	}
	// Of the other kind a group's signs stand for themselves.
	wantParse(t, "s/(a)/\\1/", false, wrong(6, api.ErrBack))
	wantParse(t, "s/\\(a\\)/\\1/", true, wrong(8, api.ErrBack))
	wantEach(t, "1,2!s,a,\\,\\3x\\,,", wrong(8, api.ErrBack))
	// One that isn't told is no group: a backslash that a backslash hides, or a digit that is the delimiter.
	wantSubs(t, "s/a/\\\\1/", "a", text("\\1"))
	wantSubs(t, "s1a1\\11", "a", text("1"))
}

// P13.1: a replacement's own errors, of what partsOf is given.
func TestPartsOf(t *testing.T) {
	for _, s := range []string{"\\", "a\\", "\\\\\\", "&\\"} {
		if parts, e := partsOf(s, 9); e != api.ErrTail || parts != nil {
			t.Errorf("P13.1: partsOf(%q): %v, %d", s, parts, e)
		}
	}
	if parts, e := partsOf("\\2\\", 1); e != api.ErrBack || parts != nil {
		t.Errorf("P13.1: partsOf: %v, %d", parts, e)
	}
}

// P13.1: regexes are of the kind of the script; their marks are farther on by where they begin.
func TestRegexesOfSubs(t *testing.T) {
	wantSub(t, "s/a\\+\\|b\\?/x/", false, subOf("a\\+\\|b\\?", false, text("x")), mark(3, "\\+"), mark(5, "\\|"), mark(8, "\\?"))
	wantSub(t, "s/(a+|b)?/x/", true, subOf("(a+|b)?", true, text("x")))
	wantSub(t, "s/(a+|b)?/x/", false, subOf("(a+|b)?", false, text("x")))
	wantSub(t, "s/(a)\\1/x/", true, subOf("(a)\\1", true, text("x")), mark(5, "\\1"))
	wantSub(t, "s,\\,\\w,x,", true, subOf(",\\w", true, text("x")), mark(3, "\\w"))
	want := right(guarded(guardOf("/\\w/,+1"), Command{At: 7, Name: 's', Sub: subOf("\\S", false, text("x"))}), 14, mark(1, "\\w"), mark(5, "+"), mark(9, "\\S"), mark(14, "}"))
	wantEach(t, "/\\w/,+1s/\\S/x/}", want)
	for s, want := range map[string]answer{
		"s//b/": wrong(2, api.ErrForm), "s///": wrong(2, api.ErrForm), "s//": wrong(2, api.ErrForm), "s//\n": wrong(2, api.ErrForm), "1s,,": wrong(3, api.ErrForm),
		"s/ab\\q/b/": wrong(2, api.ErrForm), "s/ab[z-a]/b/": wrong(2, api.ErrRange), "s/ab[[:x:]]/b/": wrong(2, api.ErrClass), "s/ab\\1/b/": wrong(2, api.ErrBack), "s/[[:a]/b/": wrong(2, api.ErrEnd),
		"s/" + strings.Repeat("a", api.MaxRegex+1) + "/b/": wrong(2, api.ErrLong), "$!s/ab\\1/\\9/": wrong(4, api.ErrBack),
	} {
		wantEach(t, s, want)
	}
	for s, e := range map[string]api.Errno{"\\(": api.ErrGroup, "a\\)": api.ErrGroup, "\\+": api.ErrRepeat, "a\\{x": api.ErrBound, strings.Repeat("\\(", api.MaxNest+1): api.ErrDeep} {
		wantParse(t, "s/"+s+"/b/", false, wrong(2, e))
	}
	for s, e := range map[string]api.Errno{"(": api.ErrGroup, "a)": api.ErrGroup, "*a": api.ErrRepeat, "a{x": api.ErrBound, strings.Repeat("(", api.MaxNest+1): api.ErrDeep} {
		wantParse(t, "s/"+s+"/b/", true, wrong(2, e))
	}
	most := strings.Repeat("a", api.MaxRegex)
	wantSubs(t, "s/"+most+"/b/", most, text("b"))
}

// P13.1: what ends too early, or has a byte A where none can stand.
func TestSubsThatDontEnd(t *testing.T) {
	for _, s := range []string{"s/", "s/a", "s/a\\", "s/a\\/", "s/[/", "s/[]/b/", "s/[^]/b/c", "s/\\(", "s/a/", "s/a/b", "s/a/b\\", "s/a/\\/", "s/a/\\1", "s/a/\\\n", "s,a/b/", "s/a/&[", "s/a/[\\/]"} {
		wantEach(t, s, wrong(len(s), api.ErrEnd))
	}
	for s, place := range map[string]int{"s/a\nb/c/": 3, "s/\n": 2, "s/a\\\nb/c/": 4, "s/[\n]/c/": 3, "s/a/b\n/": 5, "s/a/\n": 4, "s/a/b\\\\\n/": 7, "s/a/b\\\nc\nd/": 8, "s/a/\\/\n": 6, "s/\\(\n/b/": 4, "s/a/\\1\n/": 6, "s,/a/\n,b,": 5} {
		wantEach(t, s, wrong(place, api.ErrForm))
	}
	// The first error as it is read: a regex's comes ahead of what is wrong behind it.
	for _, back := range []string{"", "b", "b\\", "\n/", "\\1/", "b/gg", "b/k"} {
		wantEach(t, "s/a\\q/"+back, wrong(2, api.ErrForm))
		wantEach(t, "s/a[b-a]/"+back, wrong(2, api.ErrRange))
	}
}

// P13.1: flags, in any order.
func TestFlags(t *testing.T) {
	for _, flags := range []string{"", "g", "p", "1", "2", "9", "10", "007", "123456789", "999999999", "000000001", "gp", "pg", "g2", "2g", "p3", "3p", "gp4", "g4p", "4gp", "4pg", "p4g", "pg4", "12g"} {
		x := subOf("a", false, text("b"))
		x.All, x.Print = strings.Contains(flags, "g"), strings.Contains(flags, "p")
		if digits := strings.Trim(flags, "gp"); digits != "" {
			fmt.Sscanf(digits, "%d", &x.Nth)
		}
		wantSub(t, "s/a/b/"+flags, false, x)
		for file, name := range map[string]string{" f": "f", "\tf g ": "f g", " f;}#x": "f;}#x", "  /dev/null": "/dev/null", " " + strings.Repeat("f", api.MaxLabel): strings.Repeat("f", api.MaxLabel)} {
			x.File = name
			s := "s/a/b/" + flags + "w" + file
			for _, back := range []string{"", "\n", "\n}", "\nk"} {
				wantEach(t, s+back, right(Command{Name: 's', Sub: x}, len(s)))
			}
		}
	}
}

// P13.1: what is wrong with the flags is told at its place, the first as it is read.
func TestWrongFlags(t *testing.T) {
	long := strings.Repeat("f", api.MaxLabel+1)
	for e, places := range map[api.Errno]map[string]int{
		api.ErrTwice: {"gg": 1, "pp": 1, "gpg": 2, "gpp": 2, "pgp": 2, "2g3": 2, "2p2": 2, "2g0": 2, "1gp1": 3, "12g34p": 3, "ggk": 1, "2gg2": 2, "gg0": 1, "ppw f": 1, "gpgw": 2},
		api.ErrRange: {"0": 0, "00": 0, "000000000": 0, "g0": 1, "0g": 0, "p0p": 1, "0k": 0, "gp00w": 2, "0w f": 0},
		api.ErrLong:  {"1234567890": 0, "0000000000": 0, "g0000000001": 1, "p1234567890g": 1, "w " + long: 1, "gw " + long + "\n": 2, "2pw  " + long: 3},
		api.ErrForm:  {"w": 1, "wf": 1, "w\n f": 1, "w;": 1, "gpw}": 3, "2wg": 2, "ww f": 1, "w\x0b": 1},
		api.ErrLabel: {"w ": 1, "gw\t": 2, "w  \nf": 1, "2pw \t ": 3},
		api.ErrFlag:  {"k": 0, "gk": 1, "g p": 2, "p w f": 2, "2 2": 2, " g": 1, "\t\tp": 2, "I": 0, "e": 0, "m": 0, "M": 0, "gi": 1, "/": 0, "g/": 1, "-1": 0, "g,": 1, "\\": 0, "\\\n": 0, "{": 0, "p{": 1, "2 gg": 2, " 0": 1, "\xff": 0, "\r": 0, "²": 0, "G": 0, " 1p": 1, "g!": 1},
	} {
		for flags, place := range places {
			wantEach(t, "s/a/b/"+flags, wrong(6+place, e))
			wantEach(t, "1,$!s,a,b,"+flags, wrong(10+place, e))
		}
	}
}
