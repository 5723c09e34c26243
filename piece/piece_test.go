package piece

import (
	"fmt"
	"regexp"
	"strings"
	"testing"

	"placket/api"
)

// The calls are just those of the chapter.
var (
	_ func(s string, at int) int                      = Blanks
	_ func(s string, at int) int                      = Space
	_ func(s string, at int) (int, int, api.Errno)    = Number
	_ func(s string, at int) (string, int, api.Errno) = Lines

	_ func(s string, at int, label bool) (string, int, api.Errno)                 = Name
	_ func(s string, at int, delimiter byte, regex bool) (string, int, api.Errno) = Between
)

// answer is what one of the calls that tell a text answers.
type answer struct {
	text  string
	place int
	e     api.Errno
}

func told(text string, place int, e api.Errno) answer { return answer{text, place, e} }

func (a answer) String() string { return fmt.Sprintf("%.100q, %d, %d", a.text, a.place, a.e) }

// moved is an answer about the same bytes, so many places farther on.
func (a answer) moved(by int) answer { return answer{a.text, a.place + by, a.e} }

// right is a text, and a place, without an error.
func right(text string, place int) answer { return answer{text, place, api.OK} }

// wrong is an error, and its place.
func wrong(place int, e api.Errno) answer { return answer{"", place, e} }

// number is an answer of Number, the number as a text.
func number(n, place int, e api.Errno) answer { return answer{fmt.Sprint(n), place, e} }

func wrongNumber(place int, e api.Errno) answer { return number(0, place, e) }

// The calls of a text and a place, whose answers are alike.
func numberAt(s string, at int) answer { return number(Number(s, at)) }
func linesAt(s string, at int) answer  { return told(Lines(s, at)) }
func labelAt(s string, at int) answer  { return told(Name(s, at, true)) }
func fileAt(s string, at int) answer   { return told(Name(s, at, false)) }

// fronts are bytes that stand ahead of what is read, and don't matter.
var fronts = []string{"", "x", "7", " ", "\n", ";", "\\", "[", "[^", "]", "/", "a/b\\\n[", "\xff\x00"}

// wantFar holds an answer at each of the fronts: the places count from the text's beginning.
func wantFar(t *testing.T, name, s string, call func(s string, at int) answer, want answer) {
	t.Helper()
	for _, front := range fronts {
		if got := call(front+s, len(front)); got != want.moved(len(front)) {
			t.Errorf("P11.1: %s(%.100q, %d): %v, want %v", name, front+s, len(front), got, want.moved(len(front)))
			return
		}
	}
}

// wantBefore holds that an answer stays as it is, whatever stands behind the text's end.
func wantBefore(t *testing.T, name, s string, backs []string, call func(s string, at int) answer, want answer) {
	t.Helper()
	wantFar(t, name, s, call, want)
	for _, back := range backs {
		wantFar(t, name, s+back, call, want)
	}
}

// wantPlace holds a place that Blanks or Space tells.
func wantPlace(t *testing.T, name, s string, call func(s string, at int) int, want int) {
	t.Helper()
	wantFar(t, name, s, func(s string, at int) answer { return right("", call(s, at)) }, right("", want))
}

// everyTextOf calls a function with all texts of up to so many of some signs.
func everyTextOf(signs string, most int, each func(s string)) {
	texts := []string{""}
	for n := 0; ; n++ {
		for _, s := range texts {
			each(s)
		}
		if n == most {
			return
		}
		var longer []string
		for _, s := range texts {
			for i := range len(signs) {
				longer = append(longer, s+signs[i:i+1])
			}
		}
		texts = longer
	}
}

// outside are numbers that aren't places of a text.
func outside(s string) []int {
	return []int{-1, -2, len(s) + 1, len(s) + 2, 1 << 40, -1 << 63, 1<<63 - 1}
}

// P11.1 and P7: what the calls answer of a place that isn't one of the text, ahead of all else.
func TestPlaceOutsideTheText(t *testing.T) {
	for _, s := range []string{"", " ", "1", "x", "/", "a/", "\\", "\n", ";", "\n\n", "[", "1234567890", "[a\nb", strings.Repeat("a", 100)} {
		for _, at := range outside(s) {
			if b, p := Blanks(s, at), Space(s, at); b != 0 || p != 0 {
				t.Errorf("P11.1: Blanks and Space of %q at %d: %d, %d", s, at, b, p)
			}
			if got := numberAt(s, at); got != wrongNumber(0, api.ErrRange) {
				t.Errorf("P11.1: Number(%q, %d): %v", s, at, got)
			}
			if got := linesAt(s, at); got != wrong(0, api.ErrRange) {
				t.Errorf("P11.1: Lines(%q, %d): %v", s, at, got)
			}
			for _, yes := range []bool{true, false} {
				if got := told(Name(s, at, yes)); got != wrong(0, api.ErrRange) {
					t.Errorf("P11.1: Name(%q, %d, %t): %v", s, at, yes, got)
				}
				for _, d := range []byte("/\n\\[a") {
					if got := told(Between(s, at, d, yes)); got != wrong(0, api.ErrRange) {
						t.Errorf("P11.1: Between(%q, %d, %q, %t): %v", s, at, d, yes, got)
					}
				}
			}
		}
	}
}

// P11.1: a text's end is a place of it.
func TestPlaceAtTheEnd(t *testing.T) {
	for _, s := range []string{"", " ", "1", "x/", "\\", "\n", "[a]"} {
		end := len(s)
		if b, p := Blanks(s, end), Space(s, end); b != end || p != end {
			t.Errorf("P11.1: Blanks and Space of %q at %d: %d, %d", s, end, b, p)
		}
		if got := numberAt(s, end); got != wrongNumber(end, api.ErrForm) {
			t.Errorf("P11.1: Number(%q, %d): %v", s, end, got)
		}
		if got := linesAt(s, end); got != right("\n", end) {
			t.Errorf("P11.1: Lines(%q, %d): %v", s, end, got)
		}
		for _, yes := range []bool{true, false} {
			if got := told(Name(s, end, yes)); got != wrong(end, api.ErrLabel) {
				t.Errorf("P11.1: Name(%q, %d, %t): %v", s, end, yes, got)
			}
			if got := told(Between(s, end, '/', yes)); got != wrong(end, api.ErrEnd) {
				t.Errorf("P11.1: Between(%q, %d, %t): %v", s, end, yes, got)
			}
		}
	}
}

// P11.1: which bytes Blanks and Space go by, each alone and behind others.
func TestBytesGoneBy(t *testing.T) {
	for i := range 256 {
		b := string([]byte{byte(i)})
		for _, s := range []string{b, b + "x", b + "\xc2"} {
			blank, space := 0, 0
			if strings.Contains(" \t", b) {
				blank = 1
			}
			if strings.Contains(" \t\n;", b) {
				space = 1
			}
			wantPlace(t, "Blanks", s, Blanks, blank)
			wantPlace(t, "Space", s, Space, space)
			if blank == 0 {
				wantPlace(t, "Blanks", " \t "+s, Blanks, 3)
			}
			if space == 0 {
				wantPlace(t, "Space", "\n; \t\n;;"+s, Space, 7)
			}
		}
	}
}

// P11.1: Blanks and Space go by all that stand there, and by none behind another byte.
func TestBlanksAndSpace(t *testing.T) {
	for s, want := range map[string][2]int{
		"": {0, 0}, "x": {0, 0}, "x ": {0, 0}, " ": {1, 1}, "\t": {1, 1}, "\n": {0, 1}, ";": {0, 1},
		"  x  ": {2, 2}, " \t \t": {4, 4}, " \n ": {1, 3}, "\n ": {0, 2}, " ;\n\t;a;": {1, 5}, ";;;": {0, 3},
		" \r ": {1, 1}, " \v": {1, 1}, "\f": {0, 0}, " \u00a0": {1, 1}, "\u0085": {0, 0}, " }": {1, 1}, " #;": {1, 1}, " \\\n": {1, 1},
	} {
		wantPlace(t, "Blanks", s, Blanks, want[0])
		wantPlace(t, "Space", s, Space, want[1])
	}
	long := strings.Repeat(" \t", 5000)
	wantPlace(t, "Blanks", long+"x", Blanks, len(long))
	wantPlace(t, "Space", long+"\n;"+long+"x", Space, 2*len(long)+2)
}

// P11.1: numbers of 1 to 9 digits, up to what is no digit.
func TestNumbers(t *testing.T) {
	backs := []string{"x", " 1", ",2", "\n3", "-", "+1", ".5", ":", "/", "\x00", "\xb2", "²", "٣"}
	for s, want := range map[string]int{
		"0": 0, "1": 1, "9": 9, "10": 10, "42": 42, "100": 100, "123": 123, "000": 0, "007": 7, "0010": 10,
		"12345678": 12345678, "123456789": 123456789, "999999999": 999999999, "000000000": 0, "000000001": 1, "100000000": 100000000,
	} {
		for _, front := range fronts {
			for _, back := range append(backs, "") {
				if got := numberAt(front+s+back, len(front)); got != number(want, len(front)+len(s), api.OK) {
					t.Errorf("P11.1: Number(%q, %d): %v", front+s+back, len(front), got)
				}
			}
		}
	}
	// Digits ahead of the place don't count.
	if got := numberAt("123", 1); got != number(23, 3, api.OK) {
		t.Errorf("P11.1: Number(123, 1): %v", got)
	}
	if got := numberAt("1234567890", 1); got != number(234567890, 10, api.OK) {
		t.Errorf("P11.1: Number(1234567890, 1): %v", got)
	}
}

// P11.1: where no digit stands, and where more than nine do.
func TestWrongNumbers(t *testing.T) {
	for i := range 256 {
		b := byte(i)
		if s := string([]byte{b, '1'}); b < '0' || b > '9' {
			wantFar(t, "Number", s, numberAt, wrongNumber(0, api.ErrForm))
		}
	}
	for _, s := range []string{"", "-1", "+1", " 1", "\n1", "x", "/", ":", "²", "٣", "\xff"} {
		wantFar(t, "Number", s, numberAt, wrongNumber(0, api.ErrForm))
	}
	for _, s := range []string{"1234567890", "0000000000", "0000000001", "9999999999", "12345678901", strings.Repeat("9", 19), strings.Repeat("9", 20), strings.Repeat("0", 4000), strings.Repeat("1", 100000)} {
		wantBefore(t, "Number", s, []string{"x", " ", ","}, numberAt, wrongNumber(0, api.ErrLong))
	}
}

// numberShape is a number, and what stands behind it.
var numberShape = regexp.MustCompile(`(?s)^([0-9]*)(.*)$`)

// P11.1: of all numbers of up to four digits, and of all short texts, Number answers as a second reading does.
func TestNumbersAgain(t *testing.T) {
	for n := range 10000 {
		for _, s := range []string{fmt.Sprint(n), fmt.Sprintf("%04d", n), fmt.Sprintf("%09d", n), fmt.Sprint(999990000 + n)} {
			want := 0
			fmt.Sscanf(s, "%d", &want)
			if got := numberAt(s+"p", 0); got != number(want, len(s), api.OK) {
				t.Fatalf("P11.1: Number(%q): %v", s, got)
			}
		}
	}
	everyTextOf("01 9a", 5, func(s string) {
		digits := numberShape.FindStringSubmatch(s)[1]
		want := wrongNumber(0, api.ErrForm)
		if digits != "" {
			n := 0
			fmt.Sscanf(digits, "%d", &n)
			want = number(n, len(digits), api.OK)
		}
		if got := numberAt(s, 0); got != want {
			t.Fatalf("P11.1: Number(%q): %v, want %v", s, got, want)
		}
	})
}

// P11.1: a text's lines: the text, with a byte A at its end, and the place behind the end of the last line.
func TestLines(t *testing.T) {
	for _, c := range []struct {
		s    string
		want answer
	}{
		{"\n", right("\n", 1)},
		{"a\n", right("a\n", 2)},
		{"a b\n", right("a b\n", 4)},
		{" a \t\n", right(" a \t\n", 5)},
		{"a;b}#c\n", right("a;b}#c\n", 7)},
		{"\r\n", right("\r\n", 2)},
		{"\x00\xff\xc3\n", right("\x00\xff\xc3\n", 4)},
		{"é\n", right("é\n", 3)},
		{"a\\b\n", right("ab\n", 4)},
		{"\\a\n", right("a\n", 3)},
		{"a\\\\\n", right("a\\\n", 4)},
		{"\\\\\\\\\n", right("\\\\\n", 5)},
		{"a\\\\n\n", right("a\\n\n", 5)},
		{"a\\n\\t\n", right("ant\n", 6)},
		{"\\ a\n", right(" a\n", 4)},
		{"\\;\\}\n", right(";}\n", 5)},
		{"a\\\nb\n", right("a\nb\n", 5)},
		{"a\\\n\\\nb\n", right("a\n\nb\n", 7)},
		{"\\\n\n", right("\n\n", 3)},
		{"\\\n\\\n\n", right("\n\n\n", 5)},
		{"a\\\\\\\nb\n", right("a\\\nb\n", 7)},
		{"a\\\n b\n", right("a\n b\n", 6)},
		{"\\\xff\\\xc3\n", right("\xff\xc3\n", 5)},
	} {
		wantBefore(t, "Lines", c.s, []string{"x", "\n", "\\", "\\\n", "p\nq"}, linesAt, c.want)
		// At the text's end the last line ends, too.
		if end := strings.TrimSuffix(c.s, "\n"); !strings.HasSuffix(end, "\\") || strings.HasSuffix(end, "\\\\") {
			wantFar(t, "Lines", end, linesAt, answer{c.want.text, c.want.place - 1, api.OK})
		}
	}
	wantFar(t, "Lines", "", linesAt, right("\n", 0))
	wantFar(t, "Lines", "a\\\n", linesAt, right("a\n\n", 3))
	wantFar(t, "Lines", "\\\n", linesAt, right("\n\n", 2))
}

// P11.1: each byte stands for itself in a text's line, alone and behind a backslash; A alone behind that.
func TestEachByteOfLines(t *testing.T) {
	for i := range 256 {
		b := string([]byte{byte(i)})
		wantFar(t, "Lines", "x\\"+b+"y\nz", linesAt, right("x"+b+"y\n", 5))
		wantFar(t, "Lines", "\\"+b, linesAt, right(b+"\n", 2))
		if b != "\n" && b != "\\" {
			wantFar(t, "Lines", "x"+b+"y\nz", linesAt, right("x"+b+"y\n", 4))
			wantFar(t, "Lines", b, linesAt, right(b+"\n", 1))
		}
	}
}

// P11.1: a backslash at the text's end is told at its place.
func TestLinesThatEndWithABackslash(t *testing.T) {
	for _, s := range []string{"", "a", "a b ", "\\\\", "\\a", "a\\\nb", "\\\n", "a\\\n\\\\", "\xff", strings.Repeat("ab\\\n", 3000)} {
		wantFar(t, "Lines", s+"\\", linesAt, wrong(len(s), api.ErrTail))
	}
	// One at the end of a line that is told before isn't looked at.
	wantFar(t, "Lines", "a\n\\", linesAt, right("a\n", 2))
}

// The lines of a text, and what stands for what in them, for a second reading.
var (
	linesShape  = regexp.MustCompile(`(?s)^((?:\\.|[^\\\n])*)(\n|$|\\$)`)
	escapeShape = regexp.MustCompile(`(?s)\\(.)`)
)

// P11.1: of all short texts of the bytes that matter Lines answers as a second reading does.
func TestLinesAgain(t *testing.T) {
	everyTextOf("\\\nan ", 7, func(s string) {
		m := linesShape.FindStringSubmatch(s)
		want := right(escapeShape.ReplaceAllString(m[1], "$1")+"\n", len(m[0]))
		if m[2] == "\\" {
			want = wrong(len(m[1]), api.ErrTail)
		}
		if got := linesAt(s, 0); got != want {
			t.Fatalf("P11.1: Lines(%q): %v, want %v", s, got, want)
		}
	})
}

// P11.1: names, without the blanks at both ends, and the place of what ends them.
func TestNames(t *testing.T) {
	for s, name := range map[string]string{
		"a": "a", "x y": "x y", " x y ": "x y", "\ta\t": "a", " \t \ta b\tc \t ": "a b\tc", "a  b": "a  b",
		"}": "}", "a}": "a}", "#": "#", "a#b": "a#b", "\\": "\\", "a\\": "a\\", "\r": "\r", "a\r": "a\r", "\v a \f": "\v a \f",
		"\xff": "\xff", "\x00": "\x00", "é": "é", "\u00a0a\u0085": "\u00a0a\u0085", "/dev/stdout": "/dev/stdout", "p": "p", "{": "{", ":": ":", "1": "1",
	} {
		wantBefore(t, "Name of a label", s, []string{"\n", "\nb", ";", ";b", ";\n", "\n;", "\n\n"}, labelAt, right(name, len(s)))
		wantBefore(t, "Name of a file", s, []string{"\n", "\nb", "\n;", "\n\n"}, fileAt, right(name, len(s)))
	}
	// A ; ends a label, and is a byte as others of a file's name.
	for s, name := range map[string]string{"a;b": "a;b", ";": ";", ";;": ";;", " ; ": ";", "a ;": "a ;", ";a": ";a", " a; b ": "a; b"} {
		wantBefore(t, "Name of a file", s, []string{"\n", "\nb;"}, fileAt, right(name, len(s)))
	}
	wantFar(t, "Name of a label", " a ; b ", labelAt, right("a", 3))
	wantFar(t, "Name of a label", "a b;c;d", labelAt, right("a b", 3))
	// A backslash doesn't hide the end.
	wantFar(t, "Name of a label", "a\\;b", labelAt, right("a\\", 2))
	wantFar(t, "Name of a label", "a\\\nb", labelAt, right("a\\", 2))
	wantFar(t, "Name of a file", "a\\\nb", fileAt, right("a\\", 2))
}

// P11.1: each byte is one of a name, but those that end it; blanks only within.
func TestEachByteOfNames(t *testing.T) {
	for i := range 256 {
		b := string([]byte{byte(i)})
		s := "x" + b + "y"
		label, file := right(s, 3), right(s, 3)
		if b == "\n" || b == ";" {
			label = right("x", 1)
		}
		if b == "\n" {
			file = right("x", 1)
		}
		wantFar(t, "Name of a label", s, labelAt, label)
		wantFar(t, "Name of a file", s, fileAt, file)
		if !strings.Contains(" \t\n;", b) {
			wantFar(t, "Name of a label", b, labelAt, right(b, 1))
			wantFar(t, "Name of a label", " "+b+" ", labelAt, right(b, 3))
			wantFar(t, "Name of a file", "\t"+b+"\t", fileAt, right(b, 3))
		}
	}
}

// P11.1: an empty name is told at the place given.
func TestEmptyNames(t *testing.T) {
	for _, s := range []string{"", " ", "\t", " \t \t ", strings.Repeat(" ", 100)} {
		wantBefore(t, "Name of a label", s, []string{"\n", "\na", ";", ";a", ";\n"}, labelAt, wrong(0, api.ErrLabel))
		wantBefore(t, "Name of a file", s, []string{"\n", "\na", "\n;"}, fileAt, wrong(0, api.ErrLabel))
	}
}

// P11.1: a name has at most MaxLabel bytes; blanks at its ends don't count, those within do.
func TestLongNames(t *testing.T) {
	backs := []string{"\n", "\na", " \n"}
	for _, name := range []string{strings.Repeat("a", api.MaxLabel), "a" + strings.Repeat(" ", api.MaxLabel-2) + "b", strings.Repeat("é", api.MaxLabel/2), strings.Repeat("\xff", api.MaxLabel)} {
		for _, back := range append(backs, "", ";", " ;a", strings.Repeat(" ", 90)) {
			end := len(name) + len(back) - len(strings.TrimLeft(back, " "))
			wantFar(t, "Name of a label", name+back, labelAt, right(name, end))
			wantFar(t, "Name of a label", " \t"+name+back, labelAt, right(name, end+2))
		}
		for _, back := range append(backs, "", " ", "\t\t\n") {
			end := len(name) + len(back) - len(strings.TrimLeft(back, " \t"))
			wantFar(t, "Name of a file", name+back, fileAt, right(name, end))
		}
		for _, s := range []string{name + "a", " " + name + "a", name + " a", name + name, name + strings.Repeat("b", 4000)} {
			wantBefore(t, "Name of a label", s, append(backs, ";", ";a"), labelAt, wrong(0, api.ErrLong))
			wantBefore(t, "Name of a file", s, append(backs, ";"), fileAt, wrong(0, api.ErrLong))
		}
		// A ; is one byte more of a file's name, and none of a label.
		wantFar(t, "Name of a label", name+";", labelAt, right(name, len(name)))
		wantFar(t, "Name of a file", name+";", fileAt, wrong(0, api.ErrLong))
	}
}

// The names at a text's beginning, for a second reading.
var (
	labelShape = regexp.MustCompile(`^[ \t]*([^\n;]*?)[ \t]*(?:[\n;]|$)`)
	fileShape  = regexp.MustCompile(`^[ \t]*([^\n]*?)[ \t]*(?:\n|$)`)
	lineShape  = regexp.MustCompile(`^[^\n]*`)
	partShape  = regexp.MustCompile(`^[^\n;]*`)
)

// P11.1: of all short texts of the bytes that matter Name answers as a second reading does.
func TestNamesAgain(t *testing.T) {
	everyTextOf(" \t\n;a\\", 6, func(s string) {
		for _, c := range []struct {
			label       bool
			name, whole *regexp.Regexp
		}{{true, labelShape, partShape}, {false, fileShape, lineShape}} {
			want := right(c.name.FindStringSubmatch(s)[1], len(c.whole.FindString(s)))
			if want.text == "" {
				want = wrong(0, api.ErrLabel)
			}
			if got := told(Name(s, 0, c.label)); got != want {
				t.Fatalf("P11.1: Name(%q, %t): %v, want %v", s, c.label, got, want)
			}
		}
	})
}

// P8 (R8): what was asked before doesn't matter.
func TestSameAnswersAgain(t *testing.T) {
	texts := []string{"", "12x", "1234567890", " a b;c\nd", "a\\\nb", "[/]a\\/b/c", "[a", "a\\", "\\"}
	var first []answer
	for round := range 3 {
		var now []answer
		for _, s := range texts {
			now = append(now, numberAt(s, 0), linesAt(s, 0), labelAt(s, 0), fileAt(s, 0), told(Between(s, 0, '/', true)), told(Between(s, 0, '/', false)), right("", Blanks(s, 0)), right("", Space(s, 0)))
			Between("[z", 0, '/', true)
			Lines("y\\", 0)
		}
		if round == 0 {
			first = now
		}
		for i := range now {
			if now[i] != first[i] {
				t.Errorf("P8 (R8): answer %d in round %d: %v, before %v", i, round, now[i], first[i])
			}
		}
	}
}
