package solve

import (
	"fmt"
	"math"
	"runtime/debug"
	"slices"
	"strings"
	"testing"

	"placket/api"
	"placket/auto"
	"placket/bre"
	"placket/code"
	"placket/ere"
	"placket/match"
	"placket/octet"
	"placket/tree"
)

// The calls are just those of the chapter.
var (
	_ func(must, not []code.Program, bound int) (v Verdict, line string) = Solve
	_ func(p code.Program, bound int) (v Verdict, line string)           = Empty
	_ func(p, q code.Program, bound int) (v Verdict, line string)        = Within
	_ func(p, q code.Program, bound int) (v Verdict, line string)        = Apart
)

// enough is the greatest bound there may be.
const enough = 100000

func compiled(t testing.TB, n tree.Node) code.Program {
	t.Helper()
	p, e := code.Compile(n)
	if e != api.OK {
		t.Fatalf("Compile of %.200s: error %d", fmt.Sprintf("%#v", n), e)
	}
	return p
}

// extended is the program of an extended regex.
func extended(t testing.TB, s string) code.Program {
	t.Helper()
	n, _, place, e := ere.Parse(s)
	if e != api.OK {
		t.Fatalf("Parse of %q: error %d at %d", s, e, place)
	}
	return compiled(t, n)
}

// programs is those of extended regexes.
func programs(t testing.TB, regexes ...string) []code.Program {
	t.Helper()
	var l []code.Program
	for _, s := range regexes {
		l = append(l, extended(t, s))
	}
	return l
}

// shown is an answer as a text.
func shown(v Verdict, line string) string {
	switch v {
	case No:
		return fmt.Sprintf("no%.100q", line)
	case Yes:
		return fmt.Sprintf("yes%.100q", line)
	case Unknown:
		return fmt.Sprintf("unknown%.100q", line)
	}
	return fmt.Sprintf("%d%.100q", v, line)
}

// The answers without a line.
const (
	never = `no""`
	holds = `yes""`
	open  = `unknown""`
)

// with is a verdict beside a line.
func with(v Verdict, line string) string { return shown(v, line) }

// list is some regexes.
type list []string

// wantSolved holds the answer to a question.
func wantSolved(t *testing.T, must, not list, bound int, want string) {
	t.Helper()
	if got := shown(Solve(programs(t, must...), programs(t, not...), bound)); got != want {
		t.Errorf("P10.1: Solve of %q and not %q with %d: %s, want %s", must, not, bound, got, want)
	}
}

// wantLine holds that there is a line, and which.
func wantLine(t *testing.T, must, not list, want string) {
	t.Helper()
	wantSolved(t, must, not, enough, with(Yes, want))
}

// wantNone holds that there is no line.
func wantNone(t *testing.T, must, not list) {
	t.Helper()
	wantSolved(t, must, not, enough, never)
}

// wantBound holds that a question has an answer just from a bound on, and always the same.
func wantBound(t *testing.T, must, not list, least int, want string) {
	t.Helper()
	for _, bound := range []int{1, 2, least - 2, least - 1} {
		if bound > 0 && bound < least {
			wantSolved(t, must, not, bound, open)
		}
	}
	for _, bound := range []int{least, least + 1, least + 2, min(2*least, enough), enough} {
		wantSolved(t, must, not, bound, want)
	}
}

// P10.1: the chapter's examples.
func TestExamples(t *testing.T) {
	wantLine(t, list{"a"}, list{"b"}, "a")
	if got := shown(Within(extended(t, "ab"), extended(t, "a"), 100)); got != holds {
		t.Errorf("P10.1: Within of ab and a: %s", got)
	}
}

// P10.1: the verdicts have their numbers.
func TestVerdicts(t *testing.T) {
	if No != 0 || Yes != 1 || Unknown != 2 {
		t.Errorf("P10.1: No, Yes, Unknown: %d, %d, %d", No, Yes, Unknown)
	}
}

// P10.1: of no regexes each line is right; the empty one is the first.
func TestNoRegexes(t *testing.T) {
	for _, bound := range []int{1, 2, enough} {
		wantSolved(t, nil, nil, bound, holds)
		// A list that is empty is as one that is nil (R5).
		if got := shown(Solve([]code.Program{}, []code.Program{}, bound)); got != holds {
			t.Errorf("P8 (R5): Solve of empty lists: %s", got)
		}
	}
}

// P10.1: the line is the least that all that must match, and none of the others.
func TestLines(t *testing.T) {
	wantLine(t, list{""}, nil, "")
	wantLine(t, nil, list{"^$"}, "\x00")
	wantLine(t, nil, list{"."}, "")
	wantNone(t, nil, list{""})
	wantNone(t, list{"a"}, list{""})
	wantNone(t, nil, list{"^$", "."})
	wantLine(t, nil, list{"^$", "[^b]"}, "b")
	wantLine(t, list{"a", "b"}, nil, "ab")
	wantLine(t, list{"b", "a"}, nil, "ab")
	wantLine(t, list{"b", "a"}, list{"ab"}, "ba")
	wantLine(t, list{"ba", "ab"}, nil, "aba")
	wantLine(t, list{"ba", "ab"}, list{"aba"}, "bab")
	wantLine(t, list{"ba", "ab"}, list{"aba", "bab"}, "abba")
	wantLine(t, list{"ba", "ab"}, list{"aba", "bab", "bb"}, "baab")
	wantNone(t, list{"ba", "ab"}, list{"aba", "bab", "bb", "aa", "[^ab]"})
	wantLine(t, list{"^(aa)*$", "^(aaa)*$"}, list{"^$"}, "aaaaaa")
	wantLine(t, list{"abc", "bcd", "dab"}, nil, "dabcd")
	wantLine(t, list{"b|ca|aaa"}, nil, "b")
	wantLine(t, list{"b|ca|aaa"}, list{"b"}, "ca")
	wantLine(t, list{"b|ca|aaa"}, list{"b", "c"}, "aaa")
	wantLine(t, list{"a{3}|b{3}"}, list{"^a"}, "bbb")
	wantLine(t, list{"^.{3}$"}, list{"[^x-z]"}, "xxx")
	wantLine(t, list{"^[a-z]+$", "[^a-m]", "..", "[^n-z]$"}, nil, "na")
	wantLine(t, list{"a", "a", "a"}, list{"b", "b"}, "a")
	wantNone(t, list{"a"}, list{"a"})
	wantNone(t, list{"ab"}, list{"b", "x"})
	wantNone(t, list{"x", "ab"}, list{"y", "a"})
}

// P10.1: what ends well at the end of the line, and there alone.
func TestEnds(t *testing.T) {
	wantLine(t, list{"a$"}, nil, "a")
	wantLine(t, list{"a$", "b"}, nil, "ba")
	wantLine(t, list{"a$", "^b"}, list{"^ba$"}, "b\x00a")
	wantLine(t, list{"a"}, list{"a$"}, "a\x00")
	wantLine(t, list{"a", "b"}, list{"a$"}, "ab")
	wantLine(t, list{"b", "a"}, list{"b$"}, "ba")
	wantLine(t, list{"b", "a"}, list{"b$", "a$", "[^ab]$"}[:2], "ab\x00")
	wantNone(t, list{"b", "a"}, list{"b$", "a$", "[^ab]$"})
	wantLine(t, list{"^$"}, nil, "")
	wantNone(t, list{"^$", "."}, nil)
	wantNone(t, list{"^a", "^b"}, nil)
	wantNone(t, list{"a$", "b$"}, nil)
	wantNone(t, list{"^a$", "b$"}, nil)
	wantNone(t, list{"a$b"}, nil)
	wantNone(t, list{"a^b"}, nil)
	wantLine(t, list{"$^"}, nil, "")
	wantNone(t, list{"$^", "."}, nil)
	wantLine(t, list{"."}, list{"$^"}, "\x00")
	wantLine(t, nil, list{"$^|a"}, "\x00")
	wantLine(t, nil, list{"a$b", "a^b"}, "")
	wantLine(t, list{"(a|b)*c"}, list{"^c", "ac"}, "\x00c")
	wantLine(t, list{"^[ab]*c$"}, list{"^c", "ac"}, "bc")
}

// P10.1: a line has any bytes but A; of bytes that do the same it has the least.
func TestBytes(t *testing.T) {
	for i := range 256 {
		b, it := byte(i), string([]byte{byte(i)})
		above := it
		if b == '\n' {
			above = "\v"
		}
		of := func(set octet.Set) code.Program { return compiled(t, tree.One{Set: set}) }
		one := []code.Program{of(octet.Of(b))}
		want := with(Yes, it)
		if b == '\n' {
			want = never
		}
		if got := shown(Solve(one, nil, enough)); got != want {
			t.Errorf("P10.1: a line with %q: %s", it, got)
		}
		if got := shown(Solve([]code.Program{of(octet.Span(b, 255))}, nil, enough)); got != with(Yes, above) {
			t.Errorf("P10.1: a line with one of %q to FF: %s", it, got)
		}
		// One byte, of all but this one.
		others, least := []code.Program{one[0], extended(t, "^$")}, "\x00"
		if b == 0 {
			least = "\x01"
		}
		if got := shown(Solve(nil, others, enough)); got != with(Yes, least) {
			t.Errorf("P10.1: a line without %q: %s", it, got)
		}
		// The byte behind all that may not be.
		upto := []code.Program{of(octet.Span(0, b)), extended(t, "^$")}
		want = never
		switch {
		case b == '\t':
			want = with(Yes, "\v")
		case b < 255:
			want = with(Yes, string([]byte{b + 1}))
		}
		if got := shown(Solve(nil, upto, enough)); got != want {
			t.Errorf("P10.1: a line without 0 to %q: %s, want %s", it, got, want)
		}
	}
	wantNone(t, list{"\n"}, nil)
	wantNone(t, list{`\n`}, nil)
	wantNone(t, list{`a\nb`}, nil)
	wantLine(t, list{`a(\n|c)b`}, nil, "acb")
	wantLine(t, list{`a[^b]b`}, list{"\x00", "[\x01-\x09]"}, "a\x0bb")
	wantLine(t, list{`^[\n-~]$`}, nil, "\\")
	wantLine(t, list{"^[\n-~]$"}, nil, "\v")
	wantNone(t, list{"."}, list{"[^\n]"})
	wantNone(t, list{"a$"}, list{"a", "\n"})
	wantLine(t, nil, list{"\n"}, "")
	wantLine(t, list{"[\x80-\xff]{2}"}, list{"\x80$"}, "\x80\x81")
	wantLine(t, list{"[[:upper:]]", "[[:lower:]]", "[[:digit:]]"}, nil, "0Aa")
	wantLine(t, list{"[[:upper:]]$", "^[[:lower:]]", "[[:digit:]]"}, nil, "a0A")
}

// P10.1: basic regexes as well as extended ones.
func TestBasic(t *testing.T) {
	n, _, _, e := bre.Parse(`\(a\|b\)\{2\}$`)
	if e != api.OK {
		t.Fatalf("Parse: error %d", e)
	}
	p := []code.Program{compiled(t, n)}
	if got := shown(Solve(p, programs(t, "a"), enough)); got != with(Yes, "bb") {
		t.Errorf("P10.1: Solve of a basic regex: %s", got)
	}
	if got := shown(Solve(programs(t, "^a*$", "..."), p, enough)); got != never {
		t.Errorf("P10.1: Solve without a basic regex: %s", got)
	}
}

// P10.1: Unknown of a bound that isn't from 1 to 100000, whatever is asked.
func TestWrongBounds(t *testing.T) {
	p, q := extended(t, "a"), extended(t, "")
	for _, bound := range []int{0, -1, 100001, 100002, math.MinInt, math.MaxInt, 1 << 32, 1<<32 + 5, -1 << 32} {
		wantSolved(t, nil, nil, bound, open)
		wantSolved(t, list{""}, nil, bound, open)
		wantSolved(t, nil, list{""}, bound, open)
		wantSolved(t, list{"a"}, list{"b"}, bound, open)
		wantSolved(t, list{`(a)\1`}, nil, bound, open)
		for k, got := range []string{shown(Empty(p, bound)), shown(Empty(q, bound)), shown(Within(p, q, bound)), shown(Within(p, p, bound)), shown(Apart(p, q, bound)), shown(Apart(q, q, bound))} {
			if got != open {
				t.Errorf("P10.1: call %d with the bound %d: %s, want %s", k, bound, got, open)
			}
		}
	}
	for _, bound := range []int{1, 2, 99999, 100000} {
		wantSolved(t, list{""}, nil, bound, holds)
		wantSolved(t, nil, list{""}, bound, never)
	}
}

// P10.1: Unknown, if a program has Backs, wherever it stands, and though the first row may tell.
func TestBacks(t *testing.T) {
	for _, regex := range []string{`(a)\1`, `(a*)\1`, `()\1`, `x|(a)\1$`, `(a)(\1){0}`, `(^)\1*`} {
		for _, bound := range []int{1, 100, enough} {
			wantSolved(t, list{regex}, nil, bound, open)
			wantSolved(t, nil, list{regex}, bound, open)
			wantSolved(t, list{"a", regex}, nil, bound, open)
			wantSolved(t, list{regex, ""}, list{"b", ""}, bound, open)
			wantSolved(t, list{"a"}, list{"", regex}, bound, open)
			p, q := extended(t, regex), extended(t, "")
			for k, got := range []string{shown(Empty(p, bound)), shown(Within(p, q, bound)), shown(Within(q, p, bound)), shown(Within(p, p, bound)), shown(Apart(p, q, bound)), shown(Apart(q, p, bound))} {
				if got != open {
					t.Errorf("P10.1: call %d of %s with %d: %s, want %s", k, regex, bound, got, open)
				}
			}
		}
	}
}

// P10.1: each automaton may meet as many states as the bound, and no more, until there is an answer.
func TestStates(t *testing.T) {
	// One for each of the six lines, and one for those that aren't their beginnings.
	wantBound(t, list{"^a{5}$"}, nil, 7, with(Yes, "aaaaa"))
	// The empty line's has none behind it, or isn't left.
	wantBound(t, list{""}, nil, 1, holds)
	wantBound(t, list{"$"}, list{"a{9}"}, 1, holds)
	wantBound(t, nil, list{""}, 1, never)
	wantBound(t, list{"a{9}"}, list{"^|b"}, 1, never)
	wantBound(t, list{"."}, nil, 2, with(Yes, "\x00"))
	wantBound(t, list{"[^\x00]"}, nil, 3, with(Yes, "\x01"))
	wantBound(t, list{"\n"}, nil, 2, never)
	wantBound(t, list{"^a$", "b"}, nil, 4, never)
	// Those of one that must not have a match, and those of a row that isn't looked at, are counted, too.
	wantBound(t, list{"^a"}, list{"b|c{7}", "^a$"}, 4, with(Yes, "a\x00"))
	wantBound(t, nil, list{"^$|^.$|^..$|^...$"}, 5, with(Yes, strings.Repeat("\x00", 4)))
	wantBound(t, list{"^aa$"}, list{"[^a]"}, 4, with(Yes, "aa"))
	wantBound(t, list{"a"}, list{"^\x01x*y", "^$|^[^\x01a]*a"}, 4, with(Yes, "\x01a"))
	wantBound(t, nil, list{"^$|[^a]|^a$", "^(x|yz|wzz)"}, 5, with(Yes, "aa"))
	// Each counts for itself.
	wantBound(t, list{"^a{5}$", "^a{5}$", "^a{4}.$"}, list{"b", "b"}, 7, with(Yes, "aaaaa"))
}

// P10.1: as many rows as the bound are looked at, each counted once, those alone that are looked at.
func TestRows(t *testing.T) {
	// Of no automaton more than five states are met.
	two, three := "^(aa)*$", "^(aaa)*$"
	// Those of the empty line, of what no line goes on from, of a to aaaaa.
	wantBound(t, list{two, three}, list{"^$"}, 7, with(Yes, "aaaaaa"))
	wantBound(t, list{two, three}, list{three}, 8, never)
	// All other bytes lead to rows that aren't looked at.
	wantBound(t, list{two, three}, list{"^$", "[^a]"}, 6, with(Yes, "aaaaaa"))
	wantBound(t, list{two, three}, list{three, "[^a]"}, 7, never)
	wantBound(t, nil, list{"a$|^$", "..", "[^a-z]"}, 3, with(Yes, "b"))
	// Behind b the states are 2 and 3, behind c 3 and 2: that is another row.
	wantBound(t, list{"^[ab]x$|^cy$", "^[ac]y$|^bz$"}, nil, 8, with(Yes, "cy"))
}

// P10.1: Empty, Within and Apart: Yes alone; No, and a line that shows it; Unknown alone.
func TestOthers(t *testing.T) {
	for _, x := range []struct {
		regex string
		bound int
		want  string
	}{
		{"a", enough, with(No, "a")}, {"", enough, with(No, "")}, {"$", enough, with(No, "")}, {".b", enough, with(No, "\x00b")}, {"^a{5}$", 6, open}, {"^a{5}$", 7, with(No, "aaaaa")},
		{"\n", enough, holds}, {"x^y", enough, holds}, {"x$y", enough, holds}, {"a\nb|c\nd$", enough, holds}, {"x^y", 1, open}, {"x^y", 2, holds}, {"xx^y", 2, open}, {"xx^y", 3, holds},
	} {
		if got := shown(Empty(extended(t, x.regex), x.bound)); got != x.want {
			t.Errorf("P10.1: Empty of %q with %d: %s, want %s", x.regex, x.bound, got, x.want)
		}
	}
	for _, x := range []struct {
		p, q  string
		bound int
		want  string
	}{
		{"ab", "a", enough, holds}, {"a", "ab", enough, with(No, "a")}, {"a", "a", enough, holds}, {"", "", enough, holds}, {"a", "", enough, holds}, {"", "a", enough, with(No, "")},
		{"^a{5}$", "^a{3,9}$", enough, holds}, {"^a{3,9}$", "^a{5}$", enough, with(No, "aaa")}, {"^[ab]*$", "^a*b*$", enough, with(No, "ba")}, {"^a*b*$", "^[ab]*$", enough, holds},
		{"x^y", "a", enough, holds}, {"a", "x^y", enough, with(No, "a")}, {"\n", "a", enough, holds}, {".", "[^\n]", enough, holds}, {"a$", "^a", enough, with(No, "\x00a")},
		{"^a{5}$", "^a{3,9}$", 6, open}, {"^a{3,9}$", "^a{5}$", 4, open}, {"^a{3,9}$", "^a{5}$", 5, with(No, "aaa")}, {"a{9}", "", 1, holds},
	} {
		if got := shown(Within(extended(t, x.p), extended(t, x.q), x.bound)); got != x.want {
			t.Errorf("P10.1: Within of %q and %q with %d: %s, want %s", x.p, x.q, x.bound, got, x.want)
		}
	}
	for _, x := range []struct {
		p, q  string
		bound int
		want  string
	}{
		{"a", "b", enough, with(No, "ab")}, {"^a", "^b", enough, holds}, {"a$", "b$", enough, holds}, {"a", "a", enough, with(No, "a")}, {"", "", enough, with(No, "")}, {"^a{5}$", "^a{3,9}$", enough, with(No, "aaaaa")},
		{"^a{5}$", "b", enough, holds}, {"b", "^a{5}$", enough, holds}, {"^(aa)*$", "^a(aa)*$", enough, holds}, {"^$", ".", enough, holds}, {"\n", "", enough, holds}, {"", "\n", enough, holds},
		{"^a{5}$", "b", 6, open}, {"^a{5}$", "", 6, open}, {"^a{5}$", "", 7, with(No, "aaaaa")}, {"", "^a{5}$", 6, open}, {"", "^a{5}$", 7, with(No, "aaaaa")},
	} {
		if got := shown(Apart(extended(t, x.p), extended(t, x.q), x.bound)); got != x.want {
			t.Errorf("P10.1: Apart of %q and %q with %d: %s, want %s", x.p, x.q, x.bound, got, x.want)
		}
	}
}

// reading is the chapter's words on a search once more: byte by byte, each row with its line.
type reading struct {
	autos []*auto.Auto
	must  int
	lines map[string]string // of the rows that are looked at
	order []string
	steps map[[2]int]map[byte]int
}

func newReading(t testing.TB, must, not []code.Program, bound int) *reading {
	r := &reading{must: len(must), lines: map[string]string{}, steps: map[[2]int]map[byte]int{}}
	for _, p := range append(slices.Clone(must), not...) {
		a, e := auto.New(p, bound)
		if e != api.OK {
			t.Fatalf("New: error %d", e)
		}
		r.autos = append(r.autos, a)
	}
	return r
}

// step is an automaton's, asked once.
func (r *reading) step(k, state int, b byte) (int, bool) {
	known := r.steps[[2]int{k, state}]
	if known == nil {
		known = map[byte]int{}
		r.steps[[2]int{k, state}] = known
	}
	if next, ok := known[b]; ok {
		return next, true
	}
	next, e := r.autos[k].Step(state, b)
	known[b] = next
	return next, e == api.OK
}

func (r *reading) answer(bound int) (Verdict, string) {
	rows := [][]int{make([]int, len(r.autos))}
	if v := r.come(rows[0], ""); v != No {
		return v, ""
	}
	if len(r.order) == 0 {
		return No, ""
	}
	for at := 0; at < len(rows); at++ {
		for i := range 256 {
			b := byte(i)
			if b == 0x0a {
				continue
			}
			row := make([]int, len(r.autos))
			for k := range r.autos {
				next, ok := r.step(k, rows[at][k], b)
				if !ok {
					return Unknown, ""
				}
				row[k] = next
			}
			line, before := r.lines[fmt.Sprint(rows[at])]+string([]byte{b}), len(r.order)
			if r.come(row, line) == Yes {
				return Yes, line
			}
			if len(r.order) == before {
				continue
			}
			if len(r.order) > bound {
				return Unknown, ""
			}
			rows = append(rows, row)
		}
	}
	return No, ""
}

// come tells whether a row is right; else it is noted, if it will be looked at, and wasn't yet.
func (r *reading) come(row []int, line string) Verdict {
	right, sure := true, false
	for k, a := range r.autos {
		right = right && a.Ends(row[k]) == (k < r.must)
		sure = sure || k >= r.must && a.Sure(row[k])
	}
	if right {
		return Yes
	}
	key := fmt.Sprint(row)
	if _, known := r.lines[key]; !sure && !known {
		r.lines[key] = line
		r.order = append(r.order, key)
	}
	return No
}

// texts is all texts of up to so many bytes of some, the least first.
func texts(bytes string, most int) []string {
	all := []string{""}
	for from := 0; most > 0; most-- {
		to := len(all)
		for _, s := range all[from:to] {
			for i := range len(bytes) {
				all = append(all, s+bytes[i:i+1])
			}
		}
		from = to
	}
	return all
}

// isRight tells whether a line is, by where the regexes match.
func isRight(must, not []*match.Regex, line string) bool {
	for _, m := range must {
		if !m.Has(line) {
			return false
		}
	}
	for _, m := range not {
		if m.Has(line) {
			return false
		}
	}
	return true
}

func matchers(l []code.Program) []*match.Regex {
	var m []*match.Regex
	for _, p := range l {
		m = append(m, match.New(p))
	}
	return m
}

// wantRead holds a question, of regexes that tell no bytes apart but those of the lines, with many bounds against the second reading, and against all short lines. It tells the answer.
func wantRead(t *testing.T, must, not list, lines []string) Verdict {
	t.Helper()
	p, q := programs(t, must...), programs(t, not...)
	last := open
	for _, bound := range []int{1, 2, 3, 4, 5, 6, 7, 8, 10, 12, 15, 20, 30, 1000} {
		v, line := Solve(p, q, bound)
		got := shown(v, line)
		if want := shown(newReading(t, p, q, bound).answer(bound)); got != want {
			t.Fatalf("P10.1: Solve of %q and not %q with %d: %s, want %s", must, not, bound, got, want)
		}
		if last != open && got != last {
			t.Fatalf("P10.2: Solve of %q and not %q with %d: %s, but %s with less", must, not, bound, got, last)
		}
		last = got
	}
	v, line := Solve(p, q, enough)
	if shown(v, line) != last && last != open {
		t.Fatalf("P10.2: Solve of %q and not %q with %d: %s, but %s with less", must, not, enough, shown(v, line), last)
	}
	m, n := matchers(p), matchers(q)
	if v == Yes && (!isRight(m, n, line) || strings.Contains(line, "\n")) {
		t.Fatalf("P10.2: Solve of %q and not %q: the line %q isn't right", must, not, line)
	}
	for _, s := range lines {
		if v == Yes && s == line {
			break
		}
		if isRight(m, n, s) {
			t.Fatalf("P10.2: Solve of %q and not %q: %s, but there is the line %q", must, not, shown(v, line), s)
		}
	}
	return v
}

// P10.1 and P10.2: of all short questions.
func TestShortQuestions(t *testing.T) {
	regexes := []string{"", "a", "^a", "a$", "^a$", "^$", "b", "ab", "b$", "^[ab]*$", "^(aa)*$", "[^a]", "a.b|ba", "^.a", "$^"}
	lines := texts("\x00ab", 5)
	count := map[Verdict]int{}
	for i, r := range regexes {
		count[wantRead(t, list{r}, nil, lines)]++
		count[wantRead(t, nil, list{r}, lines)]++
		for _, s := range regexes[i:] {
			count[wantRead(t, list{r, s}, nil, lines)]++
			count[wantRead(t, list{r}, list{s}, lines)]++
			count[wantRead(t, list{s}, list{r}, lines)]++
			count[wantRead(t, nil, list{r, s}, lines)]++
		}
	}
	if count[Yes] < 200 || count[No] < 100 || count[Unknown] > 0 {
		t.Errorf("answers: %v", count)
	}
}

// numbers tells numbers by a short rule.
type numbers struct{ x uint32 }

func (r *numbers) next(n int) int {
	r.x ^= r.x << 13
	r.x ^= r.x >> 17
	r.x ^= r.x << 5
	return int(r.x % uint32(n))
}

// regex is a text that may be an extended regex: all groups that it opens it closes.
func (r *numbers) regex() string {
	parts := []string{"a", "a", "b", "b", "[^a]", "[ab]", ".", "(", "(", "(", ")", ")", "|", "*", "+", "?", "{2}", "{0,2}", "^", "$"}
	var s strings.Builder
	open := 0
	for range 1 + r.next(7) {
		part := parts[r.next(len(parts))]
		switch {
		case part == "(":
			open++
		case part == ")" && open == 0:
			continue
		case part == ")":
			open--
		}
		s.WriteString(part)
	}
	return s.String() + strings.Repeat(")", open)
}

// some is up to so many regexes.
func (r *numbers) some(most int) list {
	var l list
	for range r.next(most + 1) {
		for {
			s := r.regex()
			if _, _, _, e := ere.Parse(s); e == api.OK {
				l = append(l, s)
				break
			}
		}
	}
	return l
}

// P10.1 and P10.2: of longer questions.
func TestLongerQuestions(t *testing.T) {
	r := &numbers{2463534242}
	lines := texts("\x00ab", 6)
	count := map[Verdict]int{}
	for range 1000 {
		count[wantRead(t, r.some(3), r.some(3), lines)]++
	}
	if count[Yes] < 400 || count[No] < 200 {
		t.Errorf("answers: %v", count)
	}
}

// P10.1: the other calls answer as Solve does.
func TestOthersAsSolve(t *testing.T) {
	r := &numbers{88675123}
	other := func(v Verdict, line string) string {
		switch v {
		case Yes:
			return with(No, line)
		case No:
			return holds
		}
		return open
	}
	for range 500 {
		l := append(append(r.some(2), r.some(2)...), "a", "[^b]$")
		p, q, bound := extended(t, l[0]), extended(t, l[1]), 1+r.next(8)
		for k, x := range []struct{ got, want string }{
			{shown(Empty(p, bound)), other(Solve([]code.Program{p}, nil, bound))},
			{shown(Within(p, q, bound)), other(Solve([]code.Program{p}, []code.Program{q}, bound))},
			{shown(Apart(p, q, bound)), other(Solve([]code.Program{p, q}, nil, bound))},
		} {
			if x.got != x.want {
				t.Errorf("P10.1: call %d of %q and %q with %d: %s, want %s", k, l[0], l[1], bound, x.got, x.want)
			}
		}
	}
}

// P10.2 and P7: lines may be long, and rows many.
func TestLongLines(t *testing.T) {
	defer debug.SetMaxStack(debug.SetMaxStack(1 << 20))
	many := list{"^(a{3})*$", "^(a{5})*$", "^(a{7})*$", "^(a{11})*$", "^(a{13})*$"}
	as := strings.Repeat("a", 3*5*7*11*13)
	v, line := Solve(programs(t, many...), programs(t, "^$"), enough)
	if v != Yes || line != as {
		t.Errorf("P10.2: a long line: %d, one of %d bytes, want %d", v, len(line), len(as))
	}
	// Those of the empty line, of what no line goes on from, and of all that are shorter.
	wantBound(t, many, list{"^$"}, len(as)+1, with(Yes, as))
	wantSolved(t, append(many, "^(a{17})*$"), list{"^$"}, enough, open)
	wantSolved(t, list{"a[ab]{16}$", "^[ab]*$"}, list{"a[ab]{16}$"}, enough, open)
	wantNone(t, list{"a[ab]{12}$", "^[ab]*$"}, list{"a[ab]{12}$"})
}

// P10.1: states above 255, and above 65535, are told apart.
func TestManyStates(t *testing.T) {
	long := strings.Repeat("a", 249)
	wantBound(t, list{"^a{255}$|^" + long[:200]}, nil, 202, with(Yes, long[:200]))
	wantLine(t, list{"^(a{250}){2}b"}, list{"ba"}, strings.Repeat("a", 500)+"b")
	wantLine(t, list{"^(a{250}){4}b$", "^(a{200}){5}b$"}, nil, strings.Repeat("a", 1000)+"b")
	// The state of each of these lines is one that wasn't met ahead of it.
	for _, size := range []int{2, 7, 8, 9, 16} {
		wantBound(t, list{fmt.Sprintf("a[ab]{%d}$", size)}, list{"[^ab]"}, 1<<size+2, with(Yes, strings.Repeat("a", size+1)))
	}
	// Of the lines of up to eleven bytes each has a row of its own.
	wantBound(t, list{"a[ab]{10}$", "b[ab]{10}$"}, list{"[^ab]"}, 1<<12-1, never)
}

// P7: the calls end of programs as long as they may be, and of many.
func TestLongPrograms(t *testing.T) {
	defer debug.SetMaxStack(debug.SetMaxStack(1 << 20))
	const room = api.MaxCode - 3
	var a tree.Node = tree.One{Set: octet.Of('a')}
	cat := compiled(t, tree.Cat{Parts: slices.Repeat([]tree.Node{a}, room)})
	as := strings.Repeat("a", room)
	if got, line := Solve([]code.Program{cat}, nil, enough); got != Yes || line != as {
		t.Errorf("P10.1: of many bytes: %s", shown(got, line))
	}
	if got := shown(Empty(cat, room)); got != open {
		t.Errorf("P10.1: Empty of many bytes: %s", got)
	}
	var each []tree.Node
	for i := range 256 {
		each = append(each, tree.One{Set: octet.Of(byte(i))})
	}
	all := compiled(t, tree.Cat{Parts: each})
	if got := shown(Empty(all, enough)); got != holds {
		t.Errorf("P10.1: Empty of all bytes: %s", got)
	}
	each = slices.Delete(each, '\n', '\n'+1)
	slices.Reverse(each)
	all = compiled(t, tree.Cat{Parts: each})
	// Two states beside those of the beginnings: of the empty line, and of what none begins.
	if got := shown(Empty(all, 256)); got != open {
		t.Errorf("P10.1: Empty of all bytes but A, with too few states: %s", got)
	}
	v, line := Empty(all, 257)
	if v != No || len(line) != 255 || line[0] != 255 || line[254] != 0 {
		t.Errorf("P10.1: Empty of all bytes but A: %s", shown(v, line))
	}
	many := slices.Repeat(programs(t, "a", "b", "^[^c]"), 100)
	if got := shown(Solve(many, many[:0], enough)); got != with(Yes, "ab") {
		t.Errorf("P10.1: Solve of many: %s", got)
	}
	if got := shown(Solve(many[:3], many, enough)); got != never {
		t.Errorf("P10.1: Solve of many, and without them: %s", got)
	}
}

// P7: the program that Compile answers beside an error has no match.
func TestNoProgram(t *testing.T) {
	p, e := code.Compile(tree.Back{Number: 1})
	if e == api.OK {
		t.Fatal("Compile of a Back alone: no error")
	}
	for k, x := range []struct{ got, want string }{
		{shown(Empty(p, 2)), holds}, {shown(Within(p, p, 2)), holds}, {shown(Apart(p, extended(t, ""), 2)), holds}, {shown(Within(extended(t, ""), p, 2)), with(No, "")}, {shown(Solve(nil, []code.Program{p}, 1)), holds},
	} {
		if x.got != x.want {
			t.Errorf("P7: call %d of no program: %s, want %s", k, x.got, x.want)
		}
	}
}

// P8 (R6): lists and programs that are handed in aren't changed, spare room included.
func TestNothingIsChanged(t *testing.T) {
	all := programs(t, "a", "b", "c", "d$", "^e")
	must, not := all[:2], all[3:4]
	spare := code.Inst{Op: code.Jump, X: -7}
	for i := range all {
		all[i].Insts = append(all[i].Insts, spare)[:len(all[i].Insts)]
	}
	before := fmt.Sprint(all)
	for range 2 {
		if got := shown(Solve(must, not, enough)); got != with(Yes, "ab") {
			t.Errorf("P8 (R8): Solve: %s", got)
		}
		if got := shown(Within(all[0], all[1], enough)); got != with(No, "a") {
			t.Errorf("P8 (R8): Within: %s", got)
		}
		if got := shown(Apart(all[3], all[4], enough)); got != with(No, "ed") {
			t.Errorf("P8 (R8): Apart: %s", got)
		}
		if fmt.Sprint(all) != before {
			t.Error("P8 (R6): what was handed in was changed")
		}
		for _, p := range all {
			if !slices.Equal(p.Insts[len(p.Insts):len(p.Insts)+1], []code.Inst{spare}) {
				t.Error("P8 (R6): spare room was changed")
			}
		}
	}
}
