package cmd

import (
	"fmt"
	"regexp"
	"strconv"
	"strings"
	"testing"

	"placket/addr"
	"placket/api"
	"placket/tree"
)

// The shapes of what a command takes, for a second reading by regular expressions.
var (
	labelShape   = regexp.MustCompile(`^[^\n;]*`)
	fileShape    = regexp.MustCompile(`^[ \t][^\n]*`)
	textShape    = regexp.MustCompile(`^([ \t]*)(\\\n)?((?:\\(?s:.)|[^\\\n])*)(\\?)(\n?)`)
	hiddenShape  = regexp.MustCompile(`(?s)\\(.)`)
	endShape     = regexp.MustCompile(`^[ \t]*([;\n#}]|\z)`)
	blankShape   = regexp.MustCompile(`^[ \t]*`)
	partShape    = regexp.MustCompile(`(?s)\\.|[^\\]`)
	flagShape    = regexp.MustCompile(`^(?:g|p|[0-9]+)`)
	listShape    = regexp.MustCompile(`^(?:\\[\\n]|[^\\])*$`)
	stopShape    = regexp.MustCompile(`^(?:\\|\[\^?\]?[^\]\n]*)?\n`)
	bracketShape = regexp.MustCompile(bracketToken + `|\\?(?s:.)`)
	pairShape    = regexp.MustCompile(`\\?(?s:.)`)
	betweenShape = map[string]*regexp.Regexp{}
)

// The tokens that stand between delimiters: in a regex, in one whose delimiter is a [ , and in no regex.
const (
	bracketToken = `\[(?:\^?\][^\]\n]*|\^[^\]\n]+|[^\]\n^][^\]\n]*)\]`
	regexToken   = `\\[^\n]|` + bracketToken + `|[^\\\[\n\x%02x]`
	openedToken  = `\\[^\n]|[^\\\n\x%02x]`
	plainToken   = `\\(?s:.)|[^\\\n\x%02x]`
)

// tokens is the shape of some tokens, one behind the other, without a delimiter.
func tokens(token string, d byte) *regexp.Regexp {
	shape := fmt.Sprintf(`^(?:`+token+`)*`, d)
	if betweenShape[shape] == nil {
		betweenShape[shape] = regexp.MustCompile(shape)
	}
	return betweenShape[shape]
}

// betweenAgain reads what stands between delimiters: it, and the place behind.
func betweenAgain(s string, d byte, regex bool) (string, int, api.Errno) {
	token, shape := plainToken, pairShape
	if regex && d == '[' {
		token = openedToken
	} else if regex {
		token, shape = regexToken, bracketShape
	}
	body := tokens(token, d).FindString(s)
	rest := s[len(body):]
	switch stop := stopShape.FindString(rest); {
	case rest != "" && rest[0] == d:
		unhide := func(token string) string {
			if token == string([]byte{'\\', d}) {
				return token[1:]
			}
			return token
		}
		return shape.ReplaceAllStringFunc(body, unhide), len(body) + 1, api.OK
	case stop == "\n" || stop != "" && regex:
		return "", len(body) + len(stop) - 1, api.ErrForm
	}
	return "", len(s), api.ErrEnd
}

// endAgain reads the end of a command of these bytes so far.
func endAgain(c Command, s string, at int, marks []api.Mark) answer {
	m := endShape.FindStringSubmatchIndex(s[at:])
	if m == nil {
		return wrong(at+len(blankShape.FindString(s[at:])), api.ErrFlag)
	}
	if s[at+m[2]:at+m[3]] == "}" {
		marks = append(marks, mark(at+m[2], "}"))
	}
	return right(c, at+m[2], marks...)
}

// nameAgain reads a name behind a place: it, and where it ends.
func nameAgain(shape *regexp.Regexp, s string, at int) (string, int, api.Errno) {
	field := shape.FindString(s[at:])
	name := strings.Trim(field, " \t")
	switch {
	case name == "":
		return "", at, api.ErrLabel
	case len(name) > 40:
		return "", at, api.ErrLong
	}
	return name, at + len(field), api.OK
}

// textAgain reads a text at the beginning of these bytes, which stand behind the command's name.
func textAgain(c Command, s string) answer {
	m := textShape.FindStringSubmatchIndex(s)
	part := func(n int) string { return s[m[2*n]:m[2*n+1]] }
	lines := m[4] >= 0
	switch {
	case part(4) != "":
		return wrong(m[8], api.ErrTail)
	case !lines && part(3) == "" && part(5) == "":
		return wrong(m[6], api.ErrTail)
	case !lines && part(3) == "":
		return wrong(m[6], api.ErrEnd)
	}
	c.Arg = hiddenShape.ReplaceAllString(part(3), "$1") + "\n"
	if lines {
		return right(c, m[1])
	}
	return right(c, m[1], mark(-1, "text"))
}

// fileAgain reads a file's name behind a place into a field of a command.
func fileAgain(s string, at int) (string, int, api.Errno) {
	if !fileShape.MatchString(s[at:]) {
		return "", at, api.ErrForm
	}
	return nameAgain(fileShape, s, at)
}

// partsAgain reads a replacement.
func partsAgain(s string, groups int) ([]Part, bool) {
	var parts []Part
	for _, token := range partShape.FindAllString(s, -1) {
		number := -1
		switch {
		case token == "&":
			number = 0
		case token == "\\n":
			token = "\n"
		case len(token) == 2 && strings.Contains("0123456789", token[1:]):
			number, _ = strconv.Atoi(token[1:])
		default:
			token = token[len(token)-1:]
		}
		switch {
		case number > groups:
			return nil, false
		case number >= 0:
			parts = append(parts, group(number))
		case len(parts) > 0 && parts[len(parts)-1].Group == -1:
			parts[len(parts)-1].Text += token
		default:
			parts = append(parts, text(token))
		}
	}
	return parts, true
}

// subAgain reads what an s takes; all places are from the delimiter on.
func subAgain(c Command, s string, extended bool) answer {
	d := s[0]
	regex, length, e := betweenAgain(s[1:], d, true)
	if e != api.OK {
		return wrong(1+length, e)
	}
	at := 1 + length
	if regex == "" {
		return wrong(1, api.ErrForm)
	}
	node, marks, _, e := parseRegexOf(regex, extended)
	if e != api.OK {
		return wrong(1, e)
	}
	for i := range marks {
		marks[i].At++
	}
	replacement, length, e := betweenAgain(s[at:], d, false)
	if e != api.OK {
		return wrong(at+length, e)
	}
	parts, ok := partsAgain(replacement, tree.Groups(node))
	if !ok {
		return wrong(at, api.ErrBack)
	}
	at += length
	c.Sub = Sub{Text: regex, Tree: node, Parts: parts}
	for {
		flag := flagShape.FindString(s[at:])
		number, _ := strconv.Atoi(flag)
		switch {
		case flag == "" && strings.HasPrefix(s[at:], "w"):
			file, place, e := fileAgain(s, at+1)
			if e != api.OK {
				return wrong(place, e)
			}
			c.Sub.File = file
			return right(c, place, marks...)
		case flag == "":
			return endAgain(c, s, at, marks)
		case len(flag) > 9:
			return wrong(at, api.ErrLong)
		case flag == "g" && c.Sub.All, flag == "p" && c.Sub.Print, flag < "a" && c.Sub.Nth > 0:
			return wrong(at, api.ErrTwice)
		case flag < "a" && number == 0:
			return wrong(at, api.ErrRange)
		}
		c.Sub.All, c.Sub.Print, c.Sub.Nth = c.Sub.All || flag == "g", c.Sub.Print || flag == "p", c.Sub.Nth+number
		at += len(flag)
	}
}

// tableAgain reads what a y takes; all places are from the delimiter on.
func tableAgain(c Command, s string) answer {
	from, length, e := betweenAgain(s[1:], s[0], false)
	second := 1 + length
	if e != api.OK {
		return wrong(second, e)
	}
	to, length, e := betweenAgain(s[second:], s[0], false)
	if e != api.OK {
		return wrong(second+length, e)
	}
	replace := strings.NewReplacer("\\n", "\n", "\\\\", "\\")
	a, b := replace.Replace(from), replace.Replace(to)
	if !listShape.MatchString(from) || !listShape.MatchString(to) || len(a) != len(b) {
		return wrong(second, api.ErrMap)
	}
	for i := range a {
		if strings.Count(a, a[i:i+1]) > 1 {
			return wrong(second, api.ErrTwice)
		}
	}
	c.Table = tableFrom(a, b)
	return endAgain(c, s, second+length, nil)
}

// takenAgain reads what stands behind a name, and ends the command; all places are from there on.
func takenAgain(c Command, s string, extended bool) answer {
	switch c.Name {
	case '{', '}':
		return right(c, 0)
	case ':', 'b', 't', 'T':
		label, place, e := nameAgain(labelShape, s, 0)
		if e == api.ErrLabel && c.Name != ':' {
			place, e = len(labelShape.FindString(s)), api.OK
		}
		c.Arg = label
		if e != api.OK {
			return wrong(place, e)
		}
		return right(c, place)
	case 'a', 'i', 'c':
		return textAgain(c, s)
	case 'r', 'w':
		file, place, e := fileAgain(s, 0)
		c.Arg = file
		if e != api.OK {
			return wrong(place, e)
		}
		return right(c, place)
	case 's', 'y':
		switch {
		case s == "":
			return wrong(0, api.ErrEnd)
		case s[0] == '\\' || s[0] == '\n':
			return wrong(0, api.ErrForm)
		case c.Name == 'y':
			return tableAgain(c, s)
		}
		return subAgain(c, s, extended)
	}
	return endAgain(c, s, 0, nil)
}

// commandAgain reads the command at a text's beginning.
func commandAgain(s string, extended bool) answer {
	guard, marks, at, e := addr.ParseGuard(s, 0, extended)
	if e != api.OK {
		return wrong(at, e)
	}
	if at == len(s) {
		return wrong(at, api.ErrEnd)
	}
	most := -1
	for n, list := range names {
		if strings.IndexByte(list, s[at]) >= 0 {
			most = n
		}
	}
	if most < 0 {
		return wrong(at, api.ErrName)
	}
	if guard.A.Kind != addr.None && most < 1 || guard.B.Kind != addr.None && most < 2 {
		return wrong(at, api.ErrExtra)
	}
	if strings.IndexByte("QTz", s[at]) >= 0 {
		marks = append(marks, mark(at, s[at:at+1]))
	}
	taken := takenAgain(Command{At: -1, Guard: guard, Name: s[at]}, s[at+1:], extended).farther(at + 1)
	if taken.e == api.OK {
		taken.marks = append(marks, taken.marks...)
	}
	return taken
}

// wantAgain holds what Parse answers of a text, from a place on, against the second reading.
func wantAgain(t *testing.T, s string, at int) {
	t.Helper()
	for _, extended := range both {
		got, want := parsed(Parse(s, at, extended)), commandAgain(s[at:], extended).farther(at)
		if !got.is(want) {
			t.Fatalf("P13.1: Parse(%q, %d, %t): %v, want %v", s, at, extended, got, want)
		}
	}
}

// wantTails holds it of a head with all tails of so many of some signs at most.
func wantTails(t *testing.T, head, signs string, most int) {
	t.Helper()
	texts := []string{head}
	for n := 0; ; n++ {
		for _, s := range texts {
			wantAgain(t, s, 0)
		}
		if n == most {
			return
		}
		var longer []string
		for _, s := range texts {
			for i := range len(signs) {
				longer = append(longer, s+signs[i:i+1])
			}
		}
		texts = longer
	}
}

// P13.1 and P7: of all short texts of the bytes that matter Parse answers as a second reading does.
func TestAllShortTexts(t *testing.T) {
	wantTails(t, "", "1,!pzs}{b:ar \n\\;/#", 4)
}

// P13.1 and P7: the same of all short texts behind what begins a command.
func TestAllShortTails(t *testing.T) {
	for _, c := range []struct {
		heads []string
		signs string
		most  int
	}{
		{[]string{"s/", "s/a/", "s/\\(a\\)/", "s/(a)/", "s/[", "s"}, "/a\\1&n[]\n", 4},
		{[]string{"sn", "s&", "s1", "s[", "s]", "s^", "sna", "s&a&"}, "n&1[]^\\a", 4},
		{[]string{"s/a/b/", "s/a/b/g", "s/a/b/1", "s,a,,p", "s/\\w/&/"}, "gp01w \n;}f", 4},
		{[]string{"y/", "y/a/", "y/ab/", "y/a\\n/", "y", "yn", "ya"}, "/ab\\n\n&", 5},
		{[]string{"y/a/b/", "y///", "p", "1,2d", "Q", "z", "="}, "; \t\n}#pg\\", 4},
		{[]string{"a", "1i ", "c\\\n", "a\\", "i\t"}, "x \\\n}n", 5},
		{[]string{"b", ":", "T ", "t\t", ":x", "1,2!b", "1:"}, "x ;\n}#\\\t", 4},
		{[]string{"r", "w ", "r\t", "1,2w", "1,2r", "s/a/b/w", "s/a/b/2w ", "s/a/b/gpw"}, "f ;\n}#\\\t", 4},
		{[]string{"{", "}", "!}", "1}", "1,$!{"}, "p}{ ;\n#:", 4},
	} {
		for _, head := range c.heads {
			wantTails(t, head, c.signs, c.most)
		}
	}
}

// numbersFrom makes numbers below others, the same ones each time.
func numbersFrom(x uint32) func(below int) int {
	return func(below int) int {
		x ^= x << 13
		x ^= x >> 17
		x ^= x << 5
		return int(x % uint32(below))
	}
}

// P13.1 and P7: the same of longer texts that are put together of parts, from each of their places.
func TestTextsOfParts(t *testing.T) {
	long := strings.Repeat("x", 39)
	parts := []string{
		"1", "1,2", "$!", "/a/", "/\\w/,+2", "0", "!", " ", "\t", "\n", ";", "#", "}", "{", "\\", "\\\n", "p", "d", "Q", "z", "T", "b", "t", ":", "a", "i", "c\\\n", "r ", "w ", "x", long, "=",
		"s/", "s/a/", "s,a,b,", "s/\\(a\\)/", "s/(a|b)+/", "s|a\\|b|", "s/[/]/", "s/a\\?\\//", "/", "/", "&", "\\1", "\\2", "\\0", "\\n", "\\/", "\\,", "b/", "g", "p", "2", "34", "1234567890", "w f", "y/ab/", "y/", "ba/", "y,a\\,,\\n\\\\,", "[", "]", "\\(", "*", "\\q",
	}
	next := numbersFrom(2463534242)
	for range 80000 {
		var text strings.Builder
		for range 1 + next(8) {
			text.WriteString(parts[next(len(parts))])
		}
		wantAgain(t, text.String(), 0)
		wantAgain(t, text.String(), next(text.Len()+1))
	}
}

// P7 and R3: of texts of any bytes Parse answers a place of the text; beside an error, nothing else; and what stands ahead doesn't matter.
func TestTextsOfAnyBytes(t *testing.T) {
	const signs = "ssssyyabcrw:tT{}=pqQz12,!$ \t\n;#//////\\\\[]^*()|&ngp0\x00\xff"
	next := numbersFrom(88172645)
	for range 300000 {
		s := make([]byte, next(16))
		for i := range s {
			s[i] = signs[next(len(signs))]
		}
		at, extended := next(len(s)+1), next(2) == 0
		far, near := parsed(Parse(string(s), at, extended)), parsed(Parse(string(s[at:]), 0, extended))
		if far.place < at || far.place > len(s) || far.e != api.OK && !far.is(wrong(far.place, far.e)) || !far.is(near.farther(at)) {
			t.Fatalf("P13.1: Parse(%q, %d, %t): %v; of the rest alone: %v", s, at, extended, far, near)
		}
	}
}

// P7: long texts end, too.
func TestLongTexts(t *testing.T) {
	const n = 1 << 18
	long, blanks := strings.Repeat("ab", n), strings.Repeat(" \t", n)
	ends := func(s string, want answer) {
		t.Helper()
		if got := parsed(Parse(s, 0, false)); !got.is(want) {
			t.Errorf("P13.1: Parse of a long %.6q: error %d at %d", s, got.e, got.place)
		}
	}
	ends(blanks+"p"+blanks+"}", right(named(2*n, 'p'), 4*n+1, mark(4*n+1, "}")))
	ends("a"+blanks+long, right(arged(0, 'a', long+"\n"), 4*n+1, mark(0, "text")))
	ends("b"+blanks+"x"+blanks, right(arged(0, 'b', "x"), 4*n+2))
	ends("b"+blanks, right(named(0, 'b'), 2*n+1))
	ends(":"+long, wrong(1, api.ErrLong))
	ends("s/a/"+long+"/g", right(Command{Name: 's', Sub: Sub{Text: "a", Tree: subOf("a", false).Tree, Parts: []Part{text(long)}, All: true}}, 2*n+6))
	ends("s/"+long+"/b/", wrong(2, api.ErrLong))
	ends("s/a/b/"+strings.Repeat("1", n), wrong(6, api.ErrLong))
	ends("y/"+long+"/"+long+"/", wrong(2*n+3, api.ErrTwice))
	ends("y/a/"+long+"/", wrong(4, api.ErrMap))
	got := parsed(Parse("s/a/"+strings.Repeat("&x", n)+"/", 0, false))
	if got.e != api.OK || len(got.command.Sub.Parts) != 2*n {
		t.Errorf("P13.1: Parse of many parts: error %d at %d, %d parts", got.e, got.place, len(got.command.Sub.Parts))
	}
}
