package bracket

import (
	"regexp"
	"slices"
	"strings"
	"testing"

	"placket/api"
	"placket/octet"
)

// The call is just that of the chapter (R11).
var _ func(s string, at int) (octet.Set, int, api.Errno) = Parse

// classes are the names of all classes.
var classes = []string{"lower", "upper", "alpha", "digit", "alnum", "xdigit", "blank", "space", "cntrl", "print", "graph", "punct"}

func of(bytes string) octet.Set { return octet.Of([]byte(bytes)...) }

func span(from, to byte) octet.Set { return octet.Span(from, to) }

func class(name string) octet.Set {
	set, ok := octet.Class(name)
	if !ok {
		panic("no class " + name)
	}
	return set
}

// wantSet parses a text by itself, behind other bytes, and with bytes behind it: each time the set is the same.
func wantSet(t *testing.T, s string, want octet.Set) {
	t.Helper()
	for _, ahead := range []string{"", "x[", "]", "^", "-", "[:", "\xff\x00\n"} {
		for _, behind := range []string{"", "]", "-z]", ":]", "=]", ".]", "*\n\x00"} {
			set, at, e := Parse(ahead+s+behind, len(ahead))
			if e != api.OK || set != want || at != len(ahead)+len(s) {
				t.Errorf("P2.1: Parse(%q, %d): %v, %d, %d", ahead+s+behind, len(ahead), set.Spans(), at, e)
			}
		}
	}
}

// wantBoth parses a text, and the same behind ^, which has all other bytes.
func wantBoth(t *testing.T, s string, want octet.Set) {
	t.Helper()
	wantSet(t, s, want)
	wantSet(t, "^"+s, want.Not())
}

// wantError parses a text by itself, and behind other bytes: the place counts from the text's beginning.
func wantError(t *testing.T, s string, place int, want api.Errno) {
	t.Helper()
	for _, ahead := range []string{"", "x[", "]", "^", "-", "[:", "a-z]"} {
		set, at, e := Parse(ahead+s, len(ahead))
		if e != want || at != len(ahead)+place {
			t.Errorf("P2.1: Parse(%q, %d): error %d at %d, not %d at %d", ahead+s, len(ahead), e, at, want, len(ahead)+place)
		}
		if set != (octet.Set{}) {
			t.Errorf("P8 (R3): Parse(%q, %d): a set beside an error", ahead+s, len(ahead))
		}
	}
}

// wantErrorBoth parses a text, and the same behind ^.
func wantErrorBoth(t *testing.T, s string, place int, want api.Errno) {
	t.Helper()
	wantError(t, s, place, want)
	wantError(t, "^"+s, place+1, want)
}

// P2.1: the chapter's examples.
func TestExamples(t *testing.T) {
	wantSet(t, "a-c]", of("abc"))
	wantSet(t, "]a]", of("]a"))
	wantSet(t, "^a-]", of("a-").Not())
	wantError(t, "[:digit:]-z]", 0, api.ErrRange)
}

// P2.1 and P8 (R2, R3): a place that isn't from 0 to the text's length is told ahead of all else, with 0.
func TestPlaceOutsideTheText(t *testing.T) {
	for _, s := range []string{"", "]", "a]", "a-c]", "c-a]", "[:x:]]", "["} {
		for _, at := range []int{-1, -2, len(s) + 1, len(s) + 2, 1 << 40, -1 << 63, 1<<63 - 1} {
			if set, place, e := Parse(s, at); set != (octet.Set{}) || place != 0 || e != api.ErrRange {
				t.Errorf("P2.1: Parse(%q, %d): %v, %d, %d", s, at, set.Spans(), place, e)
			}
		}
		if _, place, e := Parse(s, len(s)); place != len(s) || e != api.ErrEnd {
			t.Errorf("P2.1: Parse(%q, %d): %d, %d", s, len(s), place, e)
		}
	}
}

// P2.1: bytes that stand for themselves.
func TestBytesStandForThemselves(t *testing.T) {
	for s, bytes := range map[string]string{
		"a]":            "a",
		"abc]":          "abc",
		"cabba]":        "abc",
		"\\n]":          "\\n",
		"\\]":           "\\",
		"a\\-]":         "a\\-",
		"$*.+?(){}|/,]": "$*.+?(){}|/,",
		"\n\t\x00\x7f]": "\n\t\x00\x7f",
		"\x80\xe9\xff]": "\x80\xe9\xff",
		"é]":            "\xc3\xa9",
		":]":            ":",
		"=]":            "=",
		".]":            ".",
		":alpha:]":      ":alph",
		"=a=]":          "=a",
		".a.]":          ".a",
		"alpha]":        "alph",
	} {
		wantBoth(t, s, of(bytes))
	}
}

// P2.1: each byte, alone, behind another one, and between [= and =], [. and .]
func TestEachByte(t *testing.T) {
	for i := range 256 {
		b := string([]byte{byte(i)})
		wantSet(t, "^"+b+"]", of(b).Not())
		wantBoth(t, "[="+b+"=]]", of(b))
		wantBoth(t, "[."+b+".]]", of(b))
		wantBoth(t, "[."+b+".]-[."+b+".]]", of(b))
		if b != "^" {
			wantSet(t, b+"]", of(b))
		}
		if b != "]" {
			wantBoth(t, "a"+b+"]", of("a"+b))
		}
	}
}

// P2.1: a ] alone is that byte as the first item, also behind ^, and closes elsewhere.
func TestClosingBracket(t *testing.T) {
	wantBoth(t, "]]", of("]"))
	wantBoth(t, "]a]", of("]a"))
	wantBoth(t, "]-]", of("]-"))
	wantBoth(t, "]-a]", span(']', 'a'))
	wantBoth(t, "][:digit:]]", of("]").Or(class("digit")))
	wantBoth(t, "[.].]]", of("]"))
	wantBoth(t, "a[=]=]]", of("a]"))
	wantBoth(t, "A-[.].]]", span('A', ']'))
	wantBoth(t, "[.].]-a]", span(']', 'a'))
	wantErrorBoth(t, "]", 1, api.ErrEnd)
	wantErrorBoth(t, "]a", 2, api.ErrEnd)
	wantErrorBoth(t, "]-a", 3, api.ErrEnd)
	// A second ] closes, whatever follows.
	if set, at, e := Parse("a]]", 0); set != of("a") || at != 2 || e != api.OK {
		t.Errorf("P2.1: Parse(a]]): %v, %d, %d", set.Spans(), at, e)
	}
	if set, at, e := Parse("]]]", 0); set != of("]") || at != 2 || e != api.OK {
		t.Errorf("P2.1: Parse(]]]): %v, %d, %d", set.Spans(), at, e)
	}
}

// P2.1: ^ stands for the other bytes as the very first byte only.
func TestCaret(t *testing.T) {
	wantSet(t, "^^]", of("^").Not())
	wantSet(t, "^^^]", of("^").Not())
	wantSet(t, "^^-a]", span('^', 'a').Not())
	wantBoth(t, "x^]", of("x^"))
	wantBoth(t, "A-^]", span('A', '^'))
	wantBoth(t, "[.^.]]", of("^"))
	wantBoth(t, "[=^=]a]", of("^a"))
	wantBoth(t, "\x00-\xff]", octet.Set{}.Not())
	wantError(t, "^", 1, api.ErrEnd)
	wantError(t, "^^", 2, api.ErrEnd)
}

// P2.1: a [ behind which none of : = . stands is that byte.
func TestOpeningBracket(t *testing.T) {
	for i := range 256 {
		b := string([]byte{byte(i)})
		if !strings.Contains(":=.]-", b) {
			wantBoth(t, "["+b+"]", of("["+b))
		}
	}
	wantBoth(t, "[]", of("["))
	wantBoth(t, "a[]", of("a["))
	wantBoth(t, "[[[]", of("["))
	wantBoth(t, "[-]", of("[-"))
	wantBoth(t, "[-a]", span('[', 'a'))
	wantBoth(t, "A-[]", span('A', '['))
	wantBoth(t, "A-[[]", span('A', '['))
	wantBoth(t, "A-[a]", span('A', '[').Or(of("a")))
	wantBoth(t, "[[.a.]]", of("[a"))
	wantBoth(t, "[[:digit:]]", class("digit").Or(of("[")))
	wantErrorBoth(t, "[", 1, api.ErrEnd)
	wantErrorBoth(t, "a[", 2, api.ErrEnd)
	wantErrorBoth(t, "A-[", 3, api.ErrEnd)
}

// P2.1: a - ahead of the closing ], and one at the place of an item, is that byte; the latter may begin a range.
func TestDash(t *testing.T) {
	for s, want := range map[string]octet.Set{
		"-]":             of("-"),
		"--]":            of("-"),
		"---]":           of("-"),
		"a-]":            of("a-"),
		"-a]":            of("-a"),
		"-a-]":           of("-a"),
		"--/]":           span('-', '/'),
		"+--]":           span('+', '-'),
		"+---]":          span('+', '-'),
		"+---/]":         of("+,-/"),
		"a-z-]":          span('a', 'z').Or(of("-")),
		"a-z-9]":         span('a', 'z').Or(of("-9")),
		"a-c-e-g]":       of("abc-efg"),
		"a-z--9]":        span('a', 'z').Or(span('-', '9')),
		"a-z-[:digit:]]": span('a', 'z').Or(class("digit")).Or(of("-")),
		"-[:digit:]]":    class("digit").Or(of("-")),
		"[:digit:]-]":    class("digit").Or(of("-")),
		"[=a=]-]":        of("a-"),
		"[.a.]-]":        of("a-"),
		"[.-.]]":         of("-"),
		"[.-.]-]":        of("-"),
		"[=-=]a]":        of("-a"),
		"[.-.]-/]":       span('-', '/'),
	} {
		wantBoth(t, s, want)
	}
}

// P2.1: classes, by their names, alone and among other items.
func TestClasses(t *testing.T) {
	for _, name := range classes {
		wantBoth(t, "[:"+name+":]]", class(name))
		wantBoth(t, "x[:"+name+":]\n]", class(name).Or(of("x\n")))
		wantBoth(t, "[:"+name+":]a-c[:digit:]]", class(name).Or(class("digit")).Or(of("abc")))
		wantBoth(t, "[:"+name+":][:"+name+":]-]", class(name).Or(of("-")))
	}
}

// P2.1: a name that is none of a class, whatever bytes stand ahead of the next :], is told at its [.
func TestNamesOfNoClass(t *testing.T) {
	for _, name := range []string{
		"", "x", "word", "ascii", "Alpha", "ALPHA", "alph", "alphaa", " alpha", "alpha ", "alpha:", ":alpha", ":",
		"]", "a]b", "al]pha", "[", "[.a.]", "[:alpha", "-", "a-z", "^alpha", "=a=", "\x00", "\xff\n", "alpha\x00",
		strings.Repeat("alpha", 700),
	} {
		opened := "[:" + name + ":]"
		wantErrorBoth(t, opened+"]", 0, api.ErrClass)
		wantErrorBoth(t, "ab"+opened+"]", 2, api.ErrClass)
		wantErrorBoth(t, "a-c[:digit:]"+opened+"]", 12, api.ErrClass)
		// What stands behind it doesn't mend it, nor does its end.
		wantErrorBoth(t, opened, 0, api.ErrClass)
		wantErrorBoth(t, opened+"alpha:]]", 0, api.ErrClass)
	}
}

// P2.1: between [= and =], [. and .], the next ones behind a byte at least, stands one byte.
func TestOneByteBetween(t *testing.T) {
	wantBoth(t, "[=a=][.b.]]", of("ab"))
	wantBoth(t, "[===]]", of("="))
	wantBoth(t, "[...]]", of("."))
	wantBoth(t, "[=.=][.=.]]", of("=."))
	wantBoth(t, "[=:=][.:.]]", of(":"))
	wantBoth(t, "[=[=][.[.]]", of("["))
	wantBoth(t, "[=]=]]", of("]"))
	wantBoth(t, "[.].]]", of("]"))
	for _, o := range []string{"=", "."} {
		open, end := "["+o, o+"]"
		for _, inner := range []string{"ab", "é", "abc", "a]", "]]", "]a", "[a", o + "a", "a[" + o, "a" + o, o + o, "\x00\x00", "alpha"} {
			wantErrorBoth(t, open+inner+end+"]", 0, api.ErrClass)
			wantErrorBoth(t, "xy"+open+inner+end+"]", 2, api.ErrClass)
			wantErrorBoth(t, open+inner+end, 0, api.ErrClass)
		}
		// Without a byte between, the next ones stand farther on: more than one byte, or no end.
		wantErrorBoth(t, open+end+"a"+end+"]", 0, api.ErrClass)
		wantErrorBoth(t, open+end+end+"]", 0, api.ErrClass)
		wantErrorBoth(t, open+end+"]", 5, api.ErrEnd)
		wantErrorBoth(t, open+end, 4, api.ErrEnd)
	}
	wantErrorBoth(t, "[=a.]]", 6, api.ErrEnd)
	wantErrorBoth(t, "[.a=]]", 6, api.ErrEnd)
	wantErrorBoth(t, "[:alpha=]]", 10, api.ErrEnd)
	wantErrorBoth(t, "[=a.]b=]]", 0, api.ErrClass)
}

// P2.1: a range has all bytes from one to the other.
func TestRanges(t *testing.T) {
	for from := range 256 {
		for to := range 256 {
			a, b := "[."+string([]byte{byte(from)})+".]", "[."+string([]byte{byte(to)})+".]"
			set, at, e := Parse(a+"-"+b+"]", 0)
			if from > to && (set != octet.Set{} || at != 0 || e != api.ErrRange) {
				t.Fatalf("P2.1: a range from %d to %d: %v, %d, %d", from, to, set.Spans(), at, e)
			}
			if from <= to && (set != span(byte(from), byte(to)) || at != len(a+b)+2 || e != api.OK) {
				t.Fatalf("P2.1: a range from %d to %d: %v, %d, %d", from, to, set.Spans(), at, e)
			}
		}
	}
	wantBoth(t, "a-z]", span('a', 'z'))
	wantBoth(t, "a-a]", of("a"))
	wantBoth(t, "a-b]", of("ab"))
	wantBoth(t, "a-zA-Z0-9_]", class("alnum").Or(of("_")))
	wantBoth(t, "a-mh-z]", span('a', 'z'))
	wantBoth(t, "[.a.]-c]", of("abc"))
	wantBoth(t, "a-[.c.]]", of("abc"))
	wantBoth(t, "[.a.]-[.c.]]", of("abc"))
	wantBoth(t, "+-[.-.]]", of("+,-"))
	wantBoth(t, "\\-a]", span('\\', 'a'))
	wantBoth(t, "x-\xe9]", span('x', 0xe9))
}

// P2.1: a range without bytes is told at the place at which its first item begins.
func TestRangesWithoutBytes(t *testing.T) {
	for _, s := range []string{"b-a", "z-a", "a--", "a-Z", "9-0", "[.c.]-a", "c-[.a.]", "[.c.]-[.a.]", "\xff-\xfe", "a-[.].]"} {
		wantErrorBoth(t, s+"]", 0, api.ErrRange)
		wantErrorBoth(t, "xy"+s+"]", 2, api.ErrRange)
		wantErrorBoth(t, "a-c"+s+"]", 3, api.ErrRange)
		wantErrorBoth(t, "[:digit:][.x.]"+s+"]", 14, api.ErrRange)
		wantErrorBoth(t, s, 0, api.ErrRange)
	}
	wantErrorBoth(t, "]-[]", 0, api.ErrRange)
	wantErrorBoth(t, "a-c-e-b]", 4, api.ErrRange)
	wantErrorBoth(t, "a-c--+]", 3, api.ErrRange)
}

// P2.1: a class or [= =] as a range's first or second item is told at the place at which its first item begins.
func TestRangesOfClasses(t *testing.T) {
	for _, one := range []string{"[:digit:]", "[:lower:]", "[=a=]", "[=z=]"} {
		for _, s := range []string{one + "-z", one + "-[.z.]", one + "--", "a-" + one, "[.a.]-" + one, "--" + one, one + "-" + one, one + "-[:upper:]", one + "-[=x=]"} {
			wantErrorBoth(t, s+"]", 0, api.ErrRange)
			wantErrorBoth(t, "0-9"+s+"]", 3, api.ErrRange)
			wantErrorBoth(t, "[:digit:]xy0-9"+s+"]", 14, api.ErrRange)
			wantErrorBoth(t, s, 0, api.ErrRange)
		}
	}
}

// P2.1: a text that ends ahead of the closing ] is told at its length, wherever it ends.
func TestTextsThatEndEarly(t *testing.T) {
	for _, s := range []string{
		"", "a", "abc", "-", "a-", "a-c", "a-c-", "[", "[a", "\xff", "\\",
		"[:", "[:a", "[:alpha", "[:alpha:", "[:alpha]", "[:]", "[:a]]", "[:alpha:]", "[:alpha:]-", "x[:digit",
		"[=", "[=a", "[=a=", "[=]", "[==", "[==]", "[==]]", "[=a]", "[=a=]", "[=a=]-",
		"[.", "[.a", "[.a.", "[.]", "[..", "[..]", "[..]]", "[.a]", "[.a.]", "[.a.]-", "[.a.]-c",
		"a-[.", "a-[.c", "a-[.c.", "a-[.c.]", "a-[=", "a-[:", "a-[:digit]",
	} {
		wantErrorBoth(t, s, len(s), api.ErrEnd)
		wantErrorBoth(t, "0-9"+s, len(s)+3, api.ErrEnd)
	}
}

// P2.1 and P8 (R2): if several things are wrong, the first item's error is told; within a range that of an item ahead of the range's.
func TestFirstOfSeveralErrors(t *testing.T) {
	for _, c := range []struct {
		s     string
		place int
		e     api.Errno
	}{
		{"z-a[:x:]]", 0, api.ErrRange},
		{"z-a[:x", 0, api.ErrRange},
		{"z-a", 0, api.ErrRange},
		{"[:x:]z-a]", 0, api.ErrClass},
		{"[:x:]", 0, api.ErrClass},
		{"[:x:][.ab.]]", 0, api.ErrClass},
		{"[.ab.][:x:]]", 0, api.ErrClass},
		{"[.ab.]-[.cd.]]", 0, api.ErrClass},
		{"[=ab=]-c]", 0, api.ErrClass},
		{"[:x:]-c]", 0, api.ErrClass},
		{"[:x:]-[:", 0, api.ErrClass},
		{"[.ab.]-", 0, api.ErrClass},
		{"a-[:x:]]", 2, api.ErrClass},
		{"a-[.xy.]]", 2, api.ErrClass},
		{"[:digit:]-[:x:]]", 10, api.ErrClass},
		{"[=a=]-[.xy.]]", 6, api.ErrClass},
		{"[:digit:]-[:x", 13, api.ErrEnd},
		{"[=a=]-[.", 8, api.ErrEnd},
		{"z-[.a", 5, api.ErrEnd},
		{"[:x", 3, api.ErrEnd},
		{"[:x[.ab.]z-a]", 13, api.ErrEnd},
	} {
		wantErrorBoth(t, c.s, c.place, c.e)
		wantErrorBoth(t, "ab0-9"+c.s, c.place+5, c.e)
	}
}

// The shapes of items at the beginning of a text, for a second reading of the chapter.
var (
	classShape = regexp.MustCompile(`(?s)^\[:(.*?):\]`)
	equalShape = regexp.MustCompile(`(?s)^\[=(.+?)=\]`)
	pointShape = regexp.MustCompile(`(?s)^\[\.(.+?)\.\]`)
	openShape  = regexp.MustCompile(`^\[[:=.]`)
)

// shape tells of the item at the beginning of a text: its length, its kind (: = . or x for a byte by itself), what it has within; or an error.
func shape(s string) (n int, kind byte, inner string, e api.Errno) {
	if s == "" {
		return 0, 0, "", api.ErrEnd
	}
	for kind, re := range map[byte]*regexp.Regexp{':': classShape, '=': equalShape, '.': pointShape} {
		if m := re.FindStringSubmatch(s); m != nil {
			if kind == ':' && !slices.Contains(classes, m[1]) || kind != ':' && len(m[1]) != 1 {
				return 0, 0, "", api.ErrClass
			}
			return len(m[0]), kind, m[1], api.OK
		}
	}
	if openShape.MatchString(s) {
		return 0, 0, "", api.ErrEnd
	}
	return 1, 'x', s[:1], api.OK
}

// again reads a bracket expression by shapes: whether each byte is in it, and the place behind it; or an error and its place.
func again(s string) (bytes [256]bool, place int, e api.Errno) {
	rest := strings.TrimPrefix(s, "^")
	here := func() int { return len(s) - len(rest) }
	wrong := func(at int, e api.Errno) ([256]bool, int, api.Errno) {
		if e == api.ErrEnd {
			at = len(s)
		}
		return [256]bool{}, at, e
	}
	for some := false; !some || !strings.HasPrefix(rest, "]"); some = true {
		at := here()
		n, kind, inner, e := shape(rest)
		if e != api.OK {
			return wrong(at, e)
		}
		rest = rest[n:]
		last, lastKind := inner, kind
		if len(rest) > 1 && rest[0] == '-' && rest[1] != ']' {
			rest = rest[1:]
			m, toKind, to, e := shape(rest)
			if e != api.OK {
				return wrong(here(), e)
			}
			rest = rest[m:]
			if strings.ContainsAny(string([]byte{kind, toKind}), ":=") || to < inner {
				return wrong(at, api.ErrRange)
			}
			last, lastKind = to, toKind
		}
		for b := range 256 {
			if lastKind == ':' {
				bytes[b] = bytes[b] || class(inner).Has(byte(b))
			} else if inner[0] <= byte(b) && byte(b) <= last[0] {
				bytes[b] = true
			}
		}
	}
	if strings.HasPrefix(s, "^") {
		for b := range bytes {
			bytes[b] = !bytes[b]
		}
	}
	return bytes, here() + 1, api.OK
}

// wantAgain holds Parse of a text against the second reading.
func wantAgain(t *testing.T, s string) {
	t.Helper()
	set, at, e := Parse(s, 0)
	bytes, place, wrong := again(s)
	if e != wrong || at != place {
		t.Fatalf("P2.1: Parse(%q): error %d at %d, not %d at %d", s, e, at, wrong, place)
	}
	for b, has := range bytes {
		if set.Has(byte(b)) != has {
			t.Fatalf("P2.1: Parse(%q): byte %d: %t", s, b, !has)
		}
	}
}

// P2.1 and P7: of all short texts of the bytes that matter the call answers as a second reading of the chapter does.
func TestAllShortTexts(t *testing.T) {
	const signs = "ac-[]^:=."
	texts := []string{""}
	for range 5 {
		var longer []string
		for _, s := range texts {
			wantAgain(t, s)
			for i := range len(signs) {
				longer = append(longer, s+signs[i:i+1])
			}
		}
		texts = longer
	}
	for _, s := range texts {
		wantAgain(t, s)
	}
}

// P2.1 and P7: the same of longer texts that are put together of parts.
func TestTextsOfParts(t *testing.T) {
	parts := []string{"a", "c", "z", "-", "]", "[", "^", "[:digit:]", "[:alpha:]", "[:x:]", "[=a=]", "[=]=]", "[.c.]", "[.-.]", "[.ab.]", "[.", "[=", "[:", ":]", "=]", ".]", "\x00", "\n", "\xff", "-[.z.]", "-z"}
	x := uint32(2463534242)
	next := func(n int) int {
		x ^= x << 13
		x ^= x >> 17
		x ^= x << 5
		return int(x % uint32(n))
	}
	for range 60000 {
		var s strings.Builder
		for range next(9) {
			s.WriteString(parts[next(len(parts))])
		}
		wantAgain(t, s.String())
		wantAgain(t, s.String()+"]")
	}
}

// P8 (R8): what was asked before doesn't matter.
func TestSameAnswersAgain(t *testing.T) {
	texts := []string{"a-c]", "[:digit:]-z]", "^]a]", "[:x:]]", "", "[.a.]-c]"}
	type answer struct {
		set octet.Set
		at  int
		e   api.Errno
	}
	var first []answer
	for round := range 3 {
		for i, s := range texts {
			set, at, e := Parse(s, 0)
			if round == 0 {
				first = append(first, answer{set, at, e})
			} else if first[i] != (answer{set, at, e}) {
				t.Errorf("P8 (R8): Parse(%q) differs in round %d", s, round)
			}
			Parse("z-a]", 0)
		}
	}
}
