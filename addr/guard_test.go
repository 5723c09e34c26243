package addr

import (
	"fmt"
	"regexp"
	"strconv"
	"strings"
	"testing"

	"placket/api"
)

// wantGuard holds an answer of ParseGuard at each of the fronts.
func wantGuard(t *testing.T, s string, extended bool, want answer) {
	t.Helper()
	for _, front := range fronts {
		got, far := guarded(ParseGuard(front+s, len(front), extended)), want.farther(len(front))
		if !got.is(far) {
			t.Errorf("P12.1: ParseGuard(%.100q, %d, %t): %v, want %v", front+s, len(front), extended, got, far)
			return
		}
	}
}

// wantGuards holds an answer of both kinds of scripts.
func wantGuards(t *testing.T, s string, want answer) {
	t.Helper()
	for _, extended := range both {
		wantGuard(t, s, extended, want)
	}
}

// only, not, from and notFrom are guards of one address, and of two.
func only(a Address) Guard       { return Guard{A: a} }
func not(a Address) Guard        { return Guard{A: a, Not: true} }
func from(a, b Address) Guard    { return Guard{A: a, B: b} }
func notFrom(a, b Address) Guard { return Guard{A: a, B: b, Not: true} }

// P12.1: the chapter's example.
func TestExample(t *testing.T) {
	for _, extended := range both {
		x, _ := regexOf("x", extended)
		wantGuard(t, "2,/x/!p", extended, right(notFrom(line(2), x), 6))
	}
}

// P12.1: without an address blanks and a ! may stand there, but no comma; and behind blanks no address.
func TestGuardsWithoutAddress(t *testing.T) {
	none, others := Guard{}, Guard{Not: true}
	for s, want := range map[string]answer{
		"": right(none, 0), "p": right(none, 0), " ": right(none, 1), " \t p": right(none, 3), "\n": right(none, 0), " \n ": right(none, 1), ";": right(none, 0),
		"!": right(others, 1), "!p": right(others, 1), "! \tp": right(others, 3), " \t! p": right(others, 4), "!\n!": right(others, 1), "!;!": right(others, 1),
		" 1p": right(none, 1), "\t$!p": right(none, 1), " /a/p": right(none, 1), "  \\": right(none, 2), "!1p": right(others, 1), "! 1,0!!": right(others, 2),
		",2p": right(none, 0), " ,2p": right(none, 1), "!,2": right(others, 1), ",": right(none, 0), "+3p": right(none, 0), " +3": right(none, 1), "+": right(none, 0), "{": right(none, 0), "\xff": right(none, 0),
	} {
		wantGuards(t, s, want)
	}
	for s, place := range map[string]int{"!!": 1, "!!p": 1, "! !": 2, " ! \t !p": 5, "!!!": 1} {
		wantGuards(t, s, wrongGuard(place, api.ErrTwice))
	}
}

// P12.1: guards of one address or two.
func TestGuards(t *testing.T) {
	mark := api.Mark{At: 2, Word: "+"}
	for s, want := range map[string]answer{
		"1": right(only(line(1)), 1), "1p": right(only(line(1)), 1), "1 \t p": right(only(line(1)), 4), "$ ": right(only(last()), 2), "1\n,2": right(only(line(1)), 1), "1 ;": right(only(line(1)), 2),
		"1!": right(not(line(1)), 2), "1 ! p": right(not(line(1)), 4), "$!\n!": right(not(last()), 2), "1!2": right(not(line(1)), 2), "1!,2p": right(not(line(1)), 2), "1! ,2": right(not(line(1)), 3),
		"1,2p": right(from(line(1), line(2)), 3), "1 ,2": right(from(line(1), line(2)), 4), "1, 2": right(from(line(1), line(2)), 4), "1\t ,\t 2\t p": right(from(line(1), line(2)), 9),
		"2,1p": right(from(line(2), line(1)), 3), "$,1p": right(from(last(), line(1)), 3), "$,$!p": right(notFrom(last(), last()), 4), "9,$ ! \tp": right(notFrom(line(9), last()), 7), "1,2!\\": right(notFrom(line(1), line(2)), 4),
		"1,+2p": right(from(line(1), plus(2)), 4, mark), "$,+0!": right(notFrom(last(), plus(0)), 5, mark), "1,+2,+3": right(from(line(1), plus(2)), 4, mark),
		"1+2": right(only(line(1)), 1), "1 2": right(only(line(1)), 2), "1$": right(only(line(1)), 1), "1/a/": right(only(line(1)), 1), "$$": right(only(last()), 1),
		"1,2,3p": right(from(line(1), line(2)), 3), "1,2 ,3p": right(from(line(1), line(2)), 4), "1,2\\": right(from(line(1), line(2)), 3), "1,2/": right(from(line(1), line(2)), 3),
	} {
		wantGuards(t, s, want)
	}
}

// P12.1: a guard's marks are those of its addresses, in their order.
func TestMarksOfGuards(t *testing.T) {
	a, _ := regexOf("a\\+b\\?", false)
	b, _ := regexOf("c\\wd", false)
	wantGuard(t, "/a\\+b\\?/ , /c\\wd/p", false, right(from(a, b), 17, api.Mark{At: 2, Word: "\\+"}, api.Mark{At: 5, Word: "\\?"}, api.Mark{At: 13, Word: "\\w"}))
	wantGuard(t, "/a\\+b\\?/,+2!p", false, right(notFrom(a, plus(2)), 12, api.Mark{At: 2, Word: "\\+"}, api.Mark{At: 5, Word: "\\?"}, api.Mark{At: 9, Word: "+"}))
	wantGuard(t, "1,/c\\wd/p", false, right(from(line(1), b), 8, api.Mark{At: 4, Word: "\\w"}))
}

// P12.1: what is wrong with a guard is told at its place, the first as it is read.
func TestWrongGuards(t *testing.T) {
	for e, places := range map[api.Errno]map[string]int{
		api.ErrAddr:  {"0p": 0, "1,0p": 2, "1 , 0": 4, "1,p": 2, "1, p": 3, "1,": 2, "1 ,\t ": 5, "1,\n2": 2, "1,,2": 2, "1,-1": 2, "$,~2": 2, "\\": 0, "1,\\": 2, "1,\\\\a\\": 2, "1, \\\n": 3, "1,!2": 2, "1,!!": 2, "0,0!!": 0, "1,0!!": 2, "00,//": 0, "/a/,}": 4, "/a/ , ;": 6},
		api.ErrTwice: {"1!!p": 2, "1! !p": 3, "1,2 ! \t!": 7, "$!!!": 2, "1 !!": 3, "/a/,+1!!": 7},
		api.ErrLong:  {"1234567890p": 0, "1,1234567890": 2, "1,+1234567890": 3, "1, 0000000000,0": 3, "0000000000": 0},
		api.ErrForm:  {"//p": 1, "1,//": 3, "1,\\,,": 4, "1,+x": 3, "1,+": 3, "1, + 2": 4, "$,++1": 3, "/a\nb/": 2, "1,/a\n": 4, "//,0": 1, "1,//!!": 3, "/a\\q/,0": 1, "1,/a\\q/!!": 3},
		api.ErrEnd:   {"/a": 2, "1,/a": 4, "1,/[/": 5, "/a/,/b": 6, "/a,0!!": 6, "/a\\": 3},
		api.ErrRange: {"/[z-a]/": 1, "1, /[z-a]/": 4},
		api.ErrBack:  {"1, \\!\\1!p": 5, "\\!\\1!,0": 2},
	} {
		for s, place := range places {
			wantGuards(t, s, wrongGuard(place, e))
		}
	}
}

// part is an address as it is written, and what is read of it.
type part struct {
	written string
	want    answer
}

func (p part) address() Address { return p.want.it.(Address) }

// partsOf are right addresses.
func partsOf(extended, second bool) []part {
	parts := []part{{"1", right(line(1), 1)}, {"007", right(line(7), 3)}, {"$", right(last(), 1)}}
	for _, r := range []struct {
		written, text string
		begin         int
	}{
		{"/a/", "a", 1}, {"\\,a\\,,", "a,", 2}, {"\\!a!", "a", 2}, {"\\ a ", "a", 2}, {"/[/,]!/", "[/,]!", 1}, {"/\\w\\|\\//", "\\w\\|/", 1}, {"/(a)/", "(a)", 1},
	} {
		address, marks := regexOf(r.text, extended)
		parts = append(parts, part{r.written, right(address, len(r.written), marksFarther(marks, r.begin)...)})
	}
	if second {
		mark := api.Mark{At: 0, Word: "+"}
		parts = append(parts, part{"+0", right(plus(0), 2, mark)}, part{"+12", right(plus(12), 3, mark)})
	}
	return parts
}

// gaps are blanks, or none.
var gaps = []string{"", " ", "\t \t"}

// wantTails holds a guard, with a ! behind it and without one, and with whatever stands behind it.
func wantTails(t *testing.T, written string, extended bool, g Guard, marks []api.Mark) {
	t.Helper()
	others := g
	others.Not = true
	want := func(s, tail string, g Guard) {
		t.Helper()
		const front = "x,"
		if got := guarded(ParseGuard(front+s+tail, len(front), extended)); !got.is(right(g, len(s), marks...).farther(len(front))) {
			t.Fatalf("P12.1: ParseGuard(%q, %t): %v", s+tail, extended, got)
		}
	}
	for _, tail := range []string{"", "p", "\n!", ";,2", "{!", "\\"} {
		for _, gap := range gaps {
			want(written+gap, tail, g)
			for _, more := range gaps {
				want(written+gap+"!"+more, tail, others)
			}
		}
	}
}

// P12.1: guards of all these addresses, with and without blanks at each place where they may stand.
func TestGuardsOfParts(t *testing.T) {
	for _, extended := range both {
		for _, a := range partsOf(extended, false) {
			wantTails(t, a.written, extended, only(a.address()), a.want.marks)
			for _, b := range partsOf(extended, true) {
				for _, ahead := range gaps {
					for _, behind := range gaps {
						middle := a.written + ahead + "," + behind
						marks := append(marksFarther(a.want.marks, 0), b.want.farther(len(middle)).marks...)
						wantTails(t, middle+b.written, extended, from(a.address(), b.address()), marks)
					}
				}
			}
		}
	}
}

// The shapes of what a guard is made of, for a second reading of texts without brackets and bytes A.
var (
	plusShape  = regexp.MustCompile(`^\+([0-9]*)`)
	lineShape  = regexp.MustCompile(`^[0-9]+`)
	openShape  = regexp.MustCompile(`^(?:/|\\[^\\])`)
	commaShape = regexp.MustCompile(`^[ \t]*,[ \t]*`)
	notShape   = regexp.MustCompile(`^[ \t]*(?:(!)[ \t]*(!)?)?`)
	bodyShapes = map[byte]*regexp.Regexp{}
)

// bodyShape is a regex up to a delimiter.
func bodyShape(d byte) *regexp.Regexp {
	if bodyShapes[d] == nil {
		bodyShapes[d] = regexp.MustCompile(fmt.Sprintf(`^((?:\\.|[^\\\x%02x])*)\x%02x`, d, d))
	}
	return bodyShapes[d]
}

// numberAgain reads digits.
func numberAgain(digits string) (int, api.Errno) {
	switch {
	case digits == "":
		return 0, api.ErrForm
	case len(digits) > 9:
		return 0, api.ErrLong
	}
	n, _ := strconv.Atoi(digits)
	return n, api.OK
}

// regexAgain reads a regex behind its opener at a text's beginning.
func regexAgain(s, opener string, extended bool) answer {
	d := opener[len(opener)-1:]
	m := bodyShape(d[0]).FindStringSubmatch(s[len(opener):])
	if m == nil {
		return wrong(len(s), api.ErrEnd)
	}
	text := strings.ReplaceAll(m[1], "\\"+d, d)
	if text == "" {
		return wrong(len(opener), api.ErrForm)
	}
	node, marks, _, e := parseRegexOf(text, extended)
	if e != api.OK {
		return wrong(len(opener), e)
	}
	return right(Address{Kind: Regex, Text: text, Tree: node}, len(opener)+len(m[0]), marksFarther(marks, len(opener))...)
}

// addressAgain reads the address at a text's beginning.
func addressAgain(s string, extended, second bool) answer {
	if m := plusShape.FindStringSubmatch(s); second && m != nil {
		n, e := numberAgain(m[1])
		if e != api.OK {
			return wrong(1, e)
		}
		return right(plus(n), len(m[0]), api.Mark{At: 0, Word: "+"})
	}
	if digits := lineShape.FindString(s); digits != "" {
		n, e := numberAgain(digits)
		if e == api.OK && n == 0 {
			e = api.ErrAddr
		}
		if e != api.OK {
			return wrong(0, e)
		}
		return right(line(n), len(digits))
	}
	opener := openShape.FindString(s)
	switch {
	case opener != "":
		return regexAgain(s, opener, extended)
	case strings.HasPrefix(s, "\\"):
		return wrong(0, api.ErrAddr)
	case strings.HasPrefix(s, "$"):
		return right(last(), 1)
	}
	return right(Address{}, 0)
}

// guardAgain reads the guard at a text's beginning.
func guardAgain(s string, extended bool) answer {
	a := addressAgain(s, extended, false)
	if a.e != api.OK {
		return wrongGuard(a.place, a.e)
	}
	guard, place, marks := only(a.it.(Address)), a.place, a.marks
	if comma := commaShape.FindString(s[place:]); comma != "" && guard.A.Kind != None {
		place += len(comma)
		b := addressAgain(s[place:], extended, true).farther(place)
		guard.B = b.it.(Address)
		if b.e == api.OK && guard.B.Kind == None {
			b.e = api.ErrAddr
		}
		if b.e != api.OK {
			return wrongGuard(b.place, b.e)
		}
		place, marks = b.place, append(marks, b.marks...)
	}
	m := notShape.FindStringSubmatchIndex(s[place:])
	if m[4] >= 0 {
		return wrongGuard(place+m[4], api.ErrTwice)
	}
	guard.Not = m[2] >= 0
	return right(guard, place+m[1], marks...)
}

// wantAgain holds what the calls answer of a text, from a place on, against the second reading.
func wantAgain(t *testing.T, s string, at int) {
	t.Helper()
	for _, extended := range both {
		for _, second := range both {
			got, want := parsed(Parse(s, at, extended, second)), addressAgain(s[at:], extended, second).farther(at)
			if !got.is(want) {
				t.Fatalf("P12.1: Parse(%q, %d, %t, %t): %v, want %v", s, at, extended, second, got, want)
			}
		}
		if got, want := guarded(ParseGuard(s, at, extended)), guardAgain(s[at:], extended).farther(at); !got.is(want) {
			t.Fatalf("P12.1: ParseGuard(%q, %d, %t): %v, want %v", s, at, extended, got, want)
		}
	}
}

// P12.1 and P7: of all short texts of the bytes that matter the calls answer as a second reading does.
func TestAllShortTexts(t *testing.T) {
	const signs = "10,!/\\+$ a"
	const most = 5
	texts := []string{""}
	for n := 0; ; n++ {
		for _, s := range texts {
			wantAgain(t, s, 0)
		}
		if n == most {
			return
		}
		var longer []string
		for _, s := range texts {
			for i := range len(signs) {
				longer = append(longer, s+signs[i:i+1])
			}
		}
		texts = longer
	}
}

// numbersFrom makes numbers below others, the same ones each time.
func numbersFrom(x uint32) func(below int) int {
	return func(below int) int {
		x ^= x << 13
		x ^= x >> 17
		x ^= x << 5
		return int(x % uint32(below))
	}
}

// P12.1 and P7: the same of longer texts that are put together of parts, from each of their places.
func TestTextsOfParts(t *testing.T) {
	parts := []string{"1", "0", "12", "999999999", "1234567890", ",", ",", " , ", "!", "$", "/a/", "/a|b/", "/a\\+/", "/(a)\\1/", "/*/", "/\\(/", "/a\\/\\w/", "/", "\\/", "\\,a\\,,", "\\xbx", "\\ a ", "\\", "+", "+3", "+0", " ", "\t", "p", "{"}
	next := numbersFrom(2463534242)
	for range 60000 {
		var text strings.Builder
		for range 1 + next(7) {
			text.WriteString(parts[next(len(parts))])
		}
		wantAgain(t, text.String(), 0)
		wantAgain(t, text.String(), next(text.Len()+1))
	}
}

// P7 and R3: of texts of any bytes the calls answer a place of the text; beside an error, nothing else; and what stands ahead doesn't matter.
func TestTextsOfAnyBytes(t *testing.T) {
	const signs = "1230,,,!/\\+$ \t\n[]^-:.=*(){}|?abnw\x00\xff"
	next := numbersFrom(88172645)
	for range 100000 {
		s := make([]byte, next(14))
		for i := range s {
			s[i] = signs[next(len(signs))]
		}
		at, extended, second := next(len(s)+1), next(2) == 0, next(2) == 0
		whole, rest := string(s), string(s[at:])
		for _, got := range []struct{ far, near, empty answer }{
			{parsed(Parse(whole, at, extended, second)), parsed(Parse(rest, 0, extended, second)), wrong(0, api.OK)},
			{guarded(ParseGuard(whole, at, extended)), guarded(ParseGuard(rest, 0, extended)), wrongGuard(0, api.OK)},
		} {
			empty := answer{got.empty.it, nil, got.far.place, got.far.e}
			if got.far.place < at || got.far.place > len(s) || got.far.e != api.OK && !got.far.is(empty) || !got.far.is(got.near.farther(at)) {
				t.Fatalf("P12.1: of %q at %d, %t, %t: %v; of the rest alone: %v", whole, at, extended, second, got.far, got.near)
			}
		}
	}
}

// P7: long texts end, too.
func TestLongTexts(t *testing.T) {
	const n = 1 << 18
	blanks := strings.Repeat(" \t", n)
	s := "1" + blanks + "," + blanks + "$" + blanks + "!" + blanks
	if got := guarded(ParseGuard(s+"p", 0, false)); !got.is(right(notFrom(line(1), last()), len(s))) {
		t.Errorf("P12.1: ParseGuard of a long text: %v", got)
	}
	if got := guarded(ParseGuard(blanks, 0, false)); !got.is(right(Guard{}, len(blanks))) {
		t.Errorf("P12.1: ParseGuard of blanks: %v", got)
	}
	for _, c := range []struct {
		s    string
		want answer
	}{
		{"/" + strings.Repeat("a", n), wrongGuard(n+1, api.ErrEnd)},
		{"/" + strings.Repeat("\\(", n) + "/", wrongGuard(1, api.ErrLong)},
		{"1," + strings.Repeat("1", n), wrongGuard(2, api.ErrLong)},
		{"1" + blanks + "," + blanks, wrongGuard(2+2*len(blanks), api.ErrAddr)},
		{"1!" + blanks + "!", wrongGuard(2+len(blanks), api.ErrTwice)},
	} {
		for _, extended := range both {
			if got := guarded(ParseGuard(c.s, 0, extended)); !got.is(c.want) {
				t.Errorf("P12.1: ParseGuard of a long %.4q: %v", c.s, got)
			}
		}
	}
}
