package piece

import (
	"strings"
	"testing"

	"placket/api"
)

// between is Between as a call of a text and a place.
func between(delimiter byte, regex bool) func(s string, at int) answer {
	return func(s string, at int) answer { return told(Between(s, at, delimiter, regex)) }
}

// kindName names a kind of Between.
func kindName(delimiter byte, regex bool) string {
	name := "Between, in no regex, with "
	if regex {
		name = "Between, in a regex, with "
	}
	return name + string([]byte{delimiter})
}

// wantBetween holds an answer that tells a text; what stands behind the delimiter doesn't matter.
func wantBetween(t *testing.T, s string, delimiter byte, regex bool, text string) {
	t.Helper()
	backs := []string{"x", "\n", "\\", "[", "]", "/", string([]byte{delimiter}), "]]\n\\/"}
	wantBefore(t, kindName(delimiter, regex), s, backs, between(delimiter, regex), right(text, len(s)))
}

// wantWrong holds an answer that tells an error.
func wantWrong(t *testing.T, s string, delimiter byte, regex bool, place int, e api.Errno) {
	t.Helper()
	wantFar(t, kindName(delimiter, regex), s, between(delimiter, regex), wrong(place, e))
}

// wantBoth holds the same answer in a regex and in none.
func wantBoth(t *testing.T, s string, delimiter byte, text string) {
	t.Helper()
	wantBetween(t, s, delimiter, true, text)
	wantBetween(t, s, delimiter, false, text)
}

// wantWrongBoth holds the same error in a regex and in none.
func wantWrongBoth(t *testing.T, s string, delimiter byte, place int, e api.Errno) {
	t.Helper()
	wantWrong(t, s, delimiter, true, place, e)
	wantWrong(t, s, delimiter, false, place, e)
}

// P11.1: the chapter's example.
func TestExample(t *testing.T) {
	for _, regex := range []bool{true, false} {
		if got := told(Between(`a\/b/c`, 0, '/', regex)); got != right("a/b", 5) {
			t.Errorf("P11.1: Between: %v", got)
		}
	}
}

// P11.1: the bytes up to the next delimiter.
func TestUpToTheDelimiter(t *testing.T) {
	for _, text := range []string{"", "a", "abc", " a ", "a;b}#c", "^a$", "a*", ".", "(a|b)", "&", "]", "a]", "]]", "^]", "-", "\x00\xff", "é", "{1,2}", strings.Repeat("ab ", 2000)} {
		for _, d := range []byte("/,|:x!%@_#9\t\x00\xc3") {
			if !strings.Contains(text, string([]byte{d})) {
				wantBoth(t, text+string([]byte{d}), d, text)
			}
		}
	}
	wantBoth(t, "/", '/', "")
	// From the place on: a delimiter, a backslash, or a [ ahead of it doesn't matter.
	for _, s := range []string{"/a/", "\\a/", "[a/", "\na/"} {
		if got := told(Between(s, 1, '/', true)); got != right("a", 3) {
			t.Errorf("P11.1: Between(%q, 1): %v", s, got)
		}
	}
	if got := told(Between("[^]/", 2, '/', true)); got != right("]", 4) {
		t.Errorf("P11.1: Between([^]/, 2): %v", got)
	}
}

// P11.1: each byte as the delimiter: a backslash and the delimiter stand for it alone.
func TestEachDelimiter(t *testing.T) {
	for i := range 256 {
		d := string([]byte{byte(i)})
		if d == "\\" {
			continue
		}
		for _, ahead := range []string{"", "z", "\\.", "q\\\\"} {
			if strings.Contains(ahead, d) {
				continue
			}
			wantBoth(t, ahead+d, d[0], ahead)
			wantBoth(t, ahead+"\\"+d+d, d[0], ahead+d)
			wantBoth(t, ahead+"\\"+d+"\\"+d+"\\"+d+d, d[0], ahead+d+d+d)
		}
	}
}

// P11.1: a backslash and another byte than the delimiter stand for both.
func TestBackslashes(t *testing.T) {
	for i := range 256 {
		b := string([]byte{byte(i)})
		if b == "/" {
			continue
		}
		wantBetween(t, "\\"+b+"/", '/', false, "\\"+b)
		wantBetween(t, "x\\"+b+"\\"+b+"y/", '/', false, "x\\"+b+"\\"+b+"y")
		if b != "\n" {
			wantBetween(t, "\\"+b+"/", '/', true, "\\"+b)
			wantBetween(t, "x\\"+b+"\\"+b+"y/", '/', true, "x\\"+b+"\\"+b+"y")
		}
	}
	for s, text := range map[string]string{
		`\//`: `/`, `\/\//`: `//`, `a\/b\/c/`: `a/b/c`, `\\/`: `\\`, `\\\//`: `\\/`, `\\\\/`: `\\\\`, `\\\\\//`: `\\\\/`,
		`\(a\)\1/`: `\(a\)\1`, `\n\t/`: `\n\t`, `\&/`: `\&`, `\]/`: `\]`, `\|/`: `\|`,
	} {
		wantBoth(t, s, '/', text)
	}
	// What is a delimiter depends on which one is given.
	wantBoth(t, `a\/b|`, '|', `a\/b`)
	wantBoth(t, `a\|b|`, '|', `a|b`)
	wantBoth(t, `\n\tn`, 'n', "n\\t")
	wantBoth(t, `\1\21`, '1', `1\2`)
	wantBoth(t, `a]`, ']', "a")
	wantBoth(t, `a\]b]`, ']', "a]b")
	wantBoth(t, `a\^b^`, '^', "a^b")
}

// P11.1: within a bracket of a regex the delimiter and the backslash are bytes as others; no such thing stands in a replacement.
func TestBrackets(t *testing.T) {
	for s, text := range map[string]string{
		"[/]/": "[/]", "[a/]/": "[a/]", "[/a]/": "[/a]", "x[/]y/": "x[/]y", "[/][/]/": "[/][/]", "[//]/": "[//]",
		"[^/]/": "[^/]", "[]/]/": "[]/]", "[^]/]/": "[^]/]", "[^]/]x/": "[^]/]x", "[]]/": "[]]", "[^]]/": "[^]]", "[]^/]/": "[]^/]", "[a^]/": "[a^]", "[^^/]/": "[^^/]",
		"[a]]/": "[a]]", "[]a]]/": "[]a]]", "[^a]]/": "[^a]]", "[^^]/": "[^^]",
		`[\/]/`: `[\/]`, `[\]/`: `[\]`, `[a\]/`: `[a\]`, `[\]\//`: `[\]/`, `[\n]/`: `[\n]`, `[^\]/`: `[^\]`, `[]\]/`: `[]\]`, `[\\]/`: `[\\]`, `[\]]/`: `[\]]`,
		`a\/[/]\/b/`: `a/[/]/b`, `\\[/]/`: `\\[/]`, `\/[/]/`: `/[/]`, `\][/]/`: `\][/]`,
		"[[]/": "[[]", "[[/]/": "[[/]", "[a[]/": "[a[]", "[[[/]/": "[[[/]", "[/[]/": "[/[]",
	} {
		wantBetween(t, s, '/', true, text)
	}
	// Behind a backslash a [ begins no bracket; and a replacement has none.
	wantBoth(t, `\[/`, '/', `\[`)
	wantBoth(t, `a\[b/`, '/', `a\[b`)
	wantBoth(t, `\\\[/`, '/', `\\\[`)
	wantBoth(t, `\[\//`, '/', `\[/`)
	wantBoth(t, `[a]\[/`, '/', `[a]\[`)
	for s, text := range map[string]string{"[/": "[", "[^/": "[^", "[]/": "[]", "[a/": "[a", `[\//`: `[/`, `[\]/`: `[\]`, `[\/a/`: `[/a`, "[[:/": "[[:"} {
		wantBetween(t, s, '/', false, text)
	}
}

// P11.1: [: to :] and the like aren't looked at: the next ] closes a bracket.
func TestClassesInBrackets(t *testing.T) {
	for s, text := range map[string]string{
		"[[:alpha:]]/": "[[:alpha:]]", "[[:alpha:]/": "[[:alpha:]", "[[:alpha:]a]/": "[[:alpha:]a]", "[[:/:]/": "[[:/:]", "[[.]/": "[[.]", "[[.].]/": "[[.].]", "[[=/=]]/": "[[=/=]]",
		"[^[:/]/": "[^[:/]", "[][:/]/": "[][:/]", "[[:alpha:][/]/": "[[:alpha:][/]", "[[.].][/]/": "[[.].][/]",
	} {
		wantBetween(t, s, '/', true, text)
	}
	// Behind that ] the delimiter ends it, though a bracket expression would go on.
	for s, text := range map[string]string{"[[:alpha:]/]/": "[[:alpha:]", "[[.]/.]/": "[[.]", "[[=]/=]/": "[[=]"} {
		wantFar(t, "Between", s, between('/', true), right(text, len(text)+1))
	}
}

// P11.1: within a bracket each byte is as others, but ] , and A, which never stands in a regex.
func TestEachByteInABracket(t *testing.T) {
	for i := range 256 {
		b := string([]byte{byte(i)})
		for _, d := range []byte("/a,^-") {
			delimiter := string([]byte{d})
			switch b {
			case "\n":
				wantWrong(t, "[x"+b+"]"+delimiter, d, true, 2, api.ErrForm)
			case "]":
				wantBetween(t, "[x"+b+delimiter, d, true, "[x]")
			default:
				wantBetween(t, "[x"+b+"]"+delimiter, d, true, "[x"+b+"]")
				wantBetween(t, "[^"+b+"]"+delimiter, d, true, "[^"+b+"]")
				wantBetween(t, "[]"+b+"]"+delimiter, d, true, "[]"+b+"]")
			}
		}
	}
}

// P11.1: the byte A stands in a replacement behind a backslash alone, and never in a regex.
func TestTheByteA(t *testing.T) {
	for s, text := range map[string]string{"\\\n/": "\\\n", "a\\\nb/": "a\\\nb", "\\\n\\\n/": "\\\n\\\n", "\\\\\\\n/": "\\\\\\\n", "\\/\\\n/": "/\\\n", "[\\\n/": "[\\\n", "[\\\n]/": "[\\\n]"} {
		wantBetween(t, s, '/', false, text)
	}
	for s, place := range map[string]int{"\n/": 0, "a\n/": 1, "a\n": 1, "\n": 0, "\\\\\n/": 2, "a\\\\\n": 3, "\\/\n/": 2, "a\\b\n\\/": 3, "\n\n/": 0, "[\n]/": 1, "[a\n": 2, "é\n/": 2, "]\n/": 1, "\\[\n/": 2} {
		wantWrongBoth(t, s, '/', place, api.ErrForm)
	}
	for s, place := range map[string]int{
		"\\\n/": 1, "a\\\nb/": 2, "a\\\n": 2, "\\\n": 1, "\\\\\\\n/": 3, "[a]\\\n/": 4, "\\/\\\n/": 3,
		"[/\n]/": 2, "[\\\n]/": 2, "[^\n]/": 2, "[]\n]/": 2, "[^]\n]/": 3, "[a/\n": 3, "[/\n": 2, "[a]\n/": 3, "[[:a:]\n]/": 6, "[]\n": 2, "[a\n\n]/": 2, "a[b]c[/\n]/": 7,
	} {
		wantWrong(t, s, '/', true, place, api.ErrForm)
	}
	// One behind the delimiter doesn't matter; nor does one ahead of the place.
	wantBoth(t, "a/", '/', "a")
	wantFar(t, "Between", "a/\n", between('/', true), right("a", 2))
	if got := told(Between("\na/", 1, '/', true)); got != right("a", 3) {
		t.Errorf("P11.1: Between behind an A: %v", got)
	}
	// The first one that can't stand there is told.
	wantWrong(t, "a\\\nb\nc\nd/", '/', false, 4, api.ErrForm)
	wantWrong(t, "a\\\nb\nc/", '/', true, 2, api.ErrForm)
}

// P11.1: a text that ends first is told at its length.
func TestTextsThatEndFirst(t *testing.T) {
	for _, s := range []string{"", "a", "abc", "\\/", "a\\/b", "\\", "a\\", "\\\\", "\\\\\\", "a\\/\\", "]", "\\[", "a]b", "\xff", strings.Repeat("a", 5000)} {
		wantWrongBoth(t, s, '/', len(s), api.ErrEnd)
	}
	for _, s := range []string{"[", "[/", "[a/", "[^", "[^/", "[]", "[]/", "[^]", "[^]/", "[a]", "[a]b", "[\\", "[\\/", "[a\\", "[/][/", "[/][", "[[:a:]", "[[:/", "[]a/b\\/", "a[/]"} {
		wantWrong(t, s, '/', true, len(s), api.ErrEnd)
	}
	for _, s := range []string{"[", "[^", "[]", "a\\\n", "\\\n", "[\\/", "[\\", "\\\n\\"} {
		wantWrong(t, s, '/', false, len(s), api.ErrEnd)
	}
}

// P11.1: a delimiter that is a [ ends it, and begins no bracket.
func TestDelimiterThatOpensABracket(t *testing.T) {
	wantBoth(t, "[", '[', "")
	wantBoth(t, "a[", '[', "a")
	wantBoth(t, "a\\[b[", '[', "a[b")
	wantBoth(t, "a]b[", '[', "a]b")
	wantBoth(t, "\\\\[", '[', "\\\\")
	wantFar(t, "Between", "[a]", between('[', true), right("", 1))
	wantFar(t, "Between", "x[^]]", between('[', true), right("x", 2))
	wantWrongBoth(t, "\\[a]", '[', 4, api.ErrEnd)
	wantWrongBoth(t, "\\", '[', 1, api.ErrEnd)
	wantWrongBoth(t, "\\[a\n[", '[', 3, api.ErrForm)
	wantWrong(t, "\\[\\\n[", '[', true, 3, api.ErrForm)
	wantBetween(t, "\\[\\\n[", '[', false, "[\\\n")
}

// P11.1: a delimiter that closes a bracket, or that stands ahead in one, is a byte as others there.
func TestDelimitersOfBrackets(t *testing.T) {
	wantBetween(t, "[a]]", ']', true, "[a]")
	wantBetween(t, "[]a]]", ']', true, "[]a]")
	wantBetween(t, "[^]a]]", ']', true, "[^]a]")
	wantBetween(t, "x[a]y]", ']', true, "x[a]y")
	wantBetween(t, "\\[a]", ']', true, "\\[a")
	wantBetween(t, "[\\]]", ']', true, "[\\]")
	wantBetween(t, "[a]", ']', false, "[a")
	wantBetween(t, "[\\]]", ']', false, "[]")
	wantWrong(t, "[a]", ']', true, 3, api.ErrEnd)
	wantWrong(t, "[]a]", ']', true, 4, api.ErrEnd)
	wantBetween(t, "[^a]^", '^', true, "[^a]")
	wantBetween(t, "[^]a]^", '^', true, "[^]a]")
	wantBetween(t, "[a^]^", '^', true, "[a^]")
	wantBetween(t, "[^", '^', false, "[")
	wantWrong(t, "[^", '^', true, 2, api.ErrEnd)
	wantWrong(t, "[^]^", '^', true, 4, api.ErrEnd)
}

// P11.1: a delimiter that is a backslash ends it wherever it stands, but in a bracket.
func TestDelimiterThatIsABackslash(t *testing.T) {
	wantBoth(t, "\\", '\\', "")
	wantBoth(t, "a\\", '\\', "a")
	wantBoth(t, "]^\\", '\\', "]^")
	for s, text := range map[string]string{"\\\\": "", "\\\\\\": "", "a\\\\": "a", "a\\n\\": "a", "a\\[\\]": "a", "\\\n\\": ""} {
		wantFar(t, "Between", s, between('\\', true), right(text, len(text)+1))
		wantFar(t, "Between", s, between('\\', false), right(text, len(text)+1))
	}
	wantBetween(t, "[\\]\\", '\\', true, "[\\]")
	wantBetween(t, "[a\\n]b\\", '\\', true, "[a\\n]b")
	wantBetween(t, "[]\\]\\", '\\', true, "[]\\]")
	wantBetween(t, "[^\\]\\", '\\', true, "[^\\]")
	wantBetween(t, "[\\", '\\', false, "[")
	wantBetween(t, "[]\\", '\\', false, "[]")
	wantWrong(t, "[\\", '\\', true, 2, api.ErrEnd)
	wantWrong(t, "[a\\\n]\\", '\\', true, 3, api.ErrForm)
	wantWrongBoth(t, "a\n\\", '\\', 1, api.ErrForm)
	wantWrongBoth(t, "abc", '\\', 3, api.ErrEnd)
}

// P11.1: a delimiter that is the byte A ends it wherever it stands, but in a bracket; behind a backslash, out of brackets, it stands for itself.
func TestDelimiterThatIsTheByteA(t *testing.T) {
	wantBoth(t, "\n", '\n', "")
	wantBoth(t, "a\n", '\n', "a")
	wantBoth(t, "a\\\nb\n", '\n', "a\nb")
	wantBoth(t, "\\\n\\\n\n", '\n', "\n\n")
	wantBoth(t, "\\\\\n", '\n', "\\\\")
	wantBoth(t, "\\\\\\\n\n", '\n', "\\\\\n")
	wantBoth(t, "\\n\n", '\n', "\\n")
	wantBetween(t, "[/]\n", '\n', true, "[/]")
	wantBetween(t, "[\\]\n", '\n', true, "[\\]")
	wantBetween(t, "\\[\n", '\n', true, "\\[")
	wantBetween(t, "[a]\\\n\n", '\n', true, "[a]\n")
	wantBetween(t, "[\n", '\n', false, "[")
	wantBetween(t, "[\\\n]\n", '\n', false, "[\n]")
	wantWrong(t, "[\n", '\n', true, 1, api.ErrForm)
	wantWrong(t, "[\n]\n", '\n', true, 1, api.ErrForm)
	wantWrong(t, "[\\\n]\n", '\n', true, 2, api.ErrForm)
	wantWrong(t, "[^]\n]\n", '\n', true, 3, api.ErrForm)
	wantWrong(t, "[a]\\\n[a\n]\n", '\n', true, 7, api.ErrForm)
	wantWrongBoth(t, "a\\\n", '\n', 3, api.ErrEnd)
	wantWrongBoth(t, "a\\", '\n', 2, api.ErrEnd)
	wantWrong(t, "[a", '\n', true, 2, api.ErrEnd)
}

// Where a byte may stand, for a second reading.
const (
	free    = iota // out of brackets
	hidden         // right behind a backslash
	opened         // right behind the [ of a bracket
	turned         // right behind its ^
	within         // farther on in it
	badByte = 10   // Instead of what a byte stands for: it can't stand there
	atEnd   = 11   // and: it ends it
)

// byteAgain tells, of a byte where it stands, where the next one stands.
func byteAgain(where int, b, delimiter byte, regex bool) int {
	inBracket := where == opened || where == turned || where == within
	switch {
	case inBracket && b == '\n':
		return badByte
	case where == opened && b == '^':
		return turned
	case where == within && b == ']':
		return free
	case inBracket:
		return within
	case where == hidden && b == '\n' && b != delimiter && regex:
		return badByte
	case where == hidden:
		return free
	case b == delimiter:
		return atEnd
	case b == '\\':
		return hidden
	case b == '\n':
		return badByte
	case b == '[' && regex:
		return opened
	}
	return free
}

// again reads what stands between delimiters byte by byte.
func again(s string, delimiter byte, regex bool) answer {
	where, text := free, ""
	for i := range len(s) {
		next := byteAgain(where, s[i], delimiter, regex)
		if next == badByte {
			return wrong(i, api.ErrForm)
		}
		if next == atEnd {
			return right(text, i+1)
		}
		if where == hidden && s[i] == delimiter {
			text = strings.TrimSuffix(text, "\\")
		}
		text += s[i : i+1]
		where = next
	}
	return wrong(len(s), api.ErrEnd)
}

// wantAgain holds Between of a text against the second reading, with each delimiter, in a regex and in none.
func wantAgain(t *testing.T, s, delimiters string) {
	t.Helper()
	for i := range len(delimiters) {
		for _, regex := range []bool{true, false} {
			got, want := told(Between(s, 0, delimiters[i], regex)), again(s, delimiters[i], regex)
			if got != want {
				t.Fatalf("P11.1: Between(%q, %q, %t): %v, want %v", s, delimiters[i], regex, got, want)
			}
		}
	}
}

// P11.1 and P7: of all short texts of the bytes that matter the call answers as a second reading of the chapter does.
func TestAllShortTexts(t *testing.T) {
	const signs = "/\\[]^\na"
	everyTextOf(signs, 6, func(s string) { wantAgain(t, s, signs) })
}

// numbersFrom makes numbers below others, the same ones each time.
func numbersFrom(x uint32) func(below int) int {
	return func(below int) int {
		x ^= x << 13
		x ^= x >> 17
		x ^= x << 5
		return int(x % uint32(below))
	}
}

// P11.1 and P7: the same of longer texts that are put together of parts, from each of their places.
func TestTextsOfParts(t *testing.T) {
	parts := []string{"a", "/", "\\", "\\/", "\\\\", "\\\n", "\n", "[", "]", "[^", "[]", "[^]", "[/]", "[^/]", "[\\]", "[[:alpha:]]", "[:", ":]", "\\[", "\\]", "é", "\xff", "\x00", "^", "x"}
	next := numbersFrom(2463534242)
	for range 20000 {
		var text strings.Builder
		for range next(12) {
			text.WriteString(parts[next(len(parts))])
		}
		s := text.String() + "/"
		wantAgain(t, s, "/x\\[]\n")
		at := next(len(s) + 1)
		for _, regex := range []bool{true, false} {
			if got, want := told(Between(s, at, '/', regex)), again(s[at:], '/', regex); got != want.moved(at) {
				t.Fatalf("P11.1: Between(%q, %d, %t): %v, want %v", s, at, regex, got, want.moved(at))
			}
		}
	}
}

// escapedFor is a text of no bracket, written so that it stands between delimiters.
func escapedFor(text string, delimiter byte) string {
	var s strings.Builder
	for i := range len(text) {
		if text[i] == delimiter {
			s.WriteByte('\\')
		}
		s.WriteByte(text[i])
	}
	return s.String()
}

// P11.1: what is written between delimiters is read again, whatever the delimiter is.
func TestWrittenAndReadAgain(t *testing.T) {
	next := numbersFrom(88172645)
	pieces := []string{"a", "b/", "|", ",x", "é", "\x00", "^", "$", "*", "n", "]", ":", "\xff", "1"}
	brackets := []string{"[/]", "[|,]", "[]x]", "[^]/|]", "[\\]", "[a^]", "[n1:]", "[^,x\xff]"}
	for range 20000 {
		d := []byte("/|,x:n1^\xff\x00")[next(10)]
		var s, regex, plain strings.Builder
		for range next(8) {
			p := pieces[next(len(pieces))]
			s.WriteString(escapedFor(p, d))
			regex.WriteString(p)
			plain.WriteString(p)
		}
		if got := told(Between(s.String()+string([]byte{d}), 0, d, false)); got != right(plain.String(), s.Len()+1) {
			t.Fatalf("P11.1: Between(%q, %q, false): %v, want %v", s.String(), d, got, plain.String())
		}
		for range next(4) {
			b, p := brackets[next(len(brackets))], pieces[next(len(pieces))]
			s.WriteString(b + escapedFor(p, d))
			regex.WriteString(b + p)
		}
		if got := told(Between(s.String()+string([]byte{d}), 0, d, true)); got != right(regex.String(), s.Len()+1) {
			t.Fatalf("P11.1: Between(%q, %q, true): %v, want %v", s.String(), d, got, regex.String())
		}
	}
}

// P7: long texts end, too.
func TestLongTexts(t *testing.T) {
	const n = 1 << 18
	for part, text := range map[string]string{"a": "a", "\\/": "/", "\\\\": "\\\\", "[/]": "[/]", "[^]/]": "[^]/]"} {
		s := strings.Repeat(part, n) + "/"
		if got := told(Between(s, 0, '/', true)); got != right(strings.Repeat(text, n), len(s)) {
			t.Errorf("P11.1: Between of %d times %q: place %d, error %d", n, part, got.place, got.e)
		}
	}
	for _, s := range []string{strings.Repeat("[", n), strings.Repeat("[]", n/2), strings.Repeat("\\/", n/2)} {
		if got := told(Between(s, 0, '/', true)); got != wrong(n, api.ErrEnd) {
			t.Errorf("P11.1: Between of a long %.4q: place %d, error %d", s, got.place, got.e)
		}
	}
}
