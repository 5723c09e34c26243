package auto

import (
	"fmt"
	"math"
	"runtime/debug"
	"slices"
	"strings"
	"testing"

	"placket/api"
	"placket/bre"
	"placket/code"
	"placket/ere"
	"placket/match"
	"placket/octet"
	"placket/tree"
)

// The calls are just those of the chapter.
var (
	_ func(p code.Program, most int) (*Auto, api.Errno)          = New
	_ func(a *Auto, state int, b byte) (next int, err api.Errno) = (*Auto).Step
	_ func(a *Auto, state int) bool                              = (*Auto).Ends
	_ func(a *Auto, state int) bool                              = (*Auto).Sure
	_ func(a *Auto) int                                          = (*Auto).Len
	_ func(a *Auto, s string) (reads bool, err api.Errno)        = (*Auto).Reads
)

// extended is the program of an extended regex.
func extended(t testing.TB, s string) code.Program {
	t.Helper()
	n, _, place, e := ere.Parse(s)
	if e != api.OK {
		t.Fatalf("Parse of %q: error %d at %d", s, e, place)
	}
	return compiled(t, n)
}

func compiled(t testing.TB, n tree.Node) code.Program {
	t.Helper()
	p, e := code.Compile(n)
	if e != api.OK {
		t.Fatalf("Compile of %.200s: error %d", fmt.Sprintf("%#v", n), e)
	}
	return p
}

// made is a program's automaton.
func made(t testing.TB, p code.Program, most int) *Auto {
	t.Helper()
	a, e := New(p, most)
	if e != api.OK || a == nil {
		t.Fatalf("P9.1: New of %d: %v, error %d", most, a, e)
	}
	return a
}

// automaton is an extended regex's, with as many states as it needs.
func automaton(t testing.TB, regex string) *Auto {
	t.Helper()
	return made(t, extended(t, regex), 100000)
}

// wantStep holds which state is behind one more byte.
func wantStep(t *testing.T, name string, a *Auto, state int, b byte, want int) {
	t.Helper()
	if got, e := a.Step(state, b); got != want || e != api.OK {
		t.Errorf("P9.1: Step of %s from %d with %q: %d, error %d, want %d", name, state, b, got, e, want)
	}
}

// wantState holds of a state whether it is sure, and ends well.
func wantState(t *testing.T, name string, a *Auto, state int, sure, ends bool) {
	t.Helper()
	if a.Sure(state) != sure || a.Ends(state) != ends {
		t.Errorf("P9.1: state %d of %s: sure %t, ends well %t, want %t, %t", state, name, a.Sure(state), a.Ends(state), sure, ends)
	}
}

func wantLen(t *testing.T, name string, a *Auto, want int) {
	t.Helper()
	if a.Len() != want {
		t.Errorf("P9.1: Len of %s: %d, want %d", name, a.Len(), want)
	}
}

// wantRead holds whether a text has a match.
func wantRead(t *testing.T, name string, a *Auto, s string, want bool) {
	t.Helper()
	if got, e := a.Reads(s); got != want || e != api.OK {
		t.Errorf("P9.1: Reads of %s of %.80q: %t, error %d, want %t", name, s, got, e, want)
	}
}

// wantCapped holds that a text can't be read, as too many states would be met, and that nothing was met by that.
func wantCapped(t *testing.T, name string, a *Auto, s string) {
	t.Helper()
	before := a.Len()
	if got, e := a.Reads(s); got || e != api.ErrCap || a.Len() != before {
		t.Errorf("P9.1: Reads of %s of %.80q: %t, error %d, and from %d to %d states, want error %d", name, s, got, e, before, a.Len(), api.ErrCap)
	}
}

// P9.1: the chapter's example.
func TestExample(t *testing.T) {
	a := automaton(t, "a")
	wantLen(t, "a", a, 1)
	wantState(t, "a", a, 0, false, false)
	wantStep(t, "a", a, 0, 'b', 1)
	wantState(t, "a", a, 1, false, false)
	wantStep(t, "a", a, 0, 'a', 2)
	wantState(t, "a", a, 2, true, true)
	wantLen(t, "a", a, 3)
}

// P9.1: New: ErrBack first, then ErrRange; else an automaton that met the state 0 alone.
func TestNew(t *testing.T) {
	p := extended(t, "a*b")
	for _, most := range []int{1, 2, 50, 99999, 100000} {
		wantLen(t, "a*b", made(t, p, most), 1)
	}
	for _, most := range []int{0, -1, 100001, 100002, math.MinInt, math.MaxInt, 1 << 32, -1 << 32} {
		if a, e := New(p, most); a != nil || e != api.ErrRange {
			t.Errorf("P9.1: New of %d: %v, error %d, want none, error %d", most, a, e, api.ErrRange)
		}
	}
	// Of a Back that is never laid the program tells, too.
	for _, regex := range []string{`(a)\1`, `(a)|(b)c\2`, `(a)\1*`, `(a)\1{0}`, `(a)((\1){0}b)*`} {
		for _, most := range []int{1, 100000, 0, 100001, math.MinInt} {
			if a, e := New(extended(t, regex), most); a != nil || e != api.ErrBack {
				t.Errorf("P9.1: New of %s and %d: %v, error %d, want none, error %d", regex, most, a, e, api.ErrBack)
			}
		}
	}
}

// P9.1: a text behind a match that isn't the text's end is sure, and stays so; all such texts have one state.
func TestSure(t *testing.T) {
	a := automaton(t, "ab|c")
	wantStep(t, "ab|c", a, 0, 'a', 1)
	wantStep(t, "ab|c", a, 1, 'b', 2)
	wantState(t, "ab|c", a, 2, true, true)
	wantStep(t, "ab|c", a, 0, 'c', 2)
	wantStep(t, "ab|c", a, 1, 'c', 2)
	for i := range 256 {
		wantStep(t, "ab|c", a, 2, byte(i), 2)
	}
	wantLen(t, "ab|c", a, 3)
	// The empty text may be sure; then it has the state of all other texts.
	for _, regex := range []string{"", "a*", "^", "a?$|", "(^)(b|^)", "()", "$|(a|b)*", "^a{0}"} {
		a := made(t, extended(t, regex), 1)
		wantState(t, regex, a, 0, true, true)
		for i := range 256 {
			wantStep(t, regex, a, 0, byte(i), 0)
		}
		wantRead(t, regex, a, "any text", true)
		wantLen(t, regex, a, 1)
	}
	// Where only the end of the text lets a match pass, it isn't.
	for _, regex := range []string{"$", "^$", "a*$", "(a|$)$", "b$|$"} {
		a := automaton(t, regex)
		wantState(t, regex, a, 0, false, true)
		wantStep(t, regex, a, 0, 'c', 1)
		wantState(t, regex, a, 1, false, regex != "^$")
	}
}

// P9.1: the state of the empty text, if it isn't sure, is another one than those of texts of the same rest.
func TestEmptyText(t *testing.T) {
	for _, regex := range []string{"a", "$", "a*$", "a$|b", "abc", "[^x]$", "x{2}"} {
		a := automaton(t, regex)
		wantStep(t, regex, a, 0, 'z', 1)
		wantStep(t, regex, a, 1, 'z', 1)
		wantStep(t, regex, a, 0, 'z', 1)
	}
	// Behind an End a Begin lets pass just if the text is empty.
	for _, regex := range []string{"$^", "($)(^)", "a*$^", "^$^$", "($|a)^$"} {
		a := automaton(t, regex)
		wantState(t, regex, a, 0, false, true)
		wantStep(t, regex, a, 0, 'a', 1)
		wantState(t, regex, a, 1, false, false)
		wantRead(t, regex, a, "", true)
		wantRead(t, regex, a, "a", false)
	}
}

// P9.1: at each place the program begins anew; Begin lets pass at the place 0 alone.
func TestBegin(t *testing.T) {
	a := automaton(t, "^ab")
	wantStep(t, "^ab", a, 0, 'x', 1)
	wantState(t, "^ab", a, 1, false, false)
	wantStep(t, "^ab", a, 1, 'a', 1)
	wantStep(t, "^ab", a, 1, 'b', 1)
	wantStep(t, "^ab", a, 0, 'a', 2)
	wantStep(t, "^ab", a, 2, 'a', 1)
	wantStep(t, "^ab", a, 2, 'b', 3)
	wantState(t, "^ab", a, 3, true, true)
	wantLen(t, "^ab", a, 4)
	a = automaton(t, "(^a|b)c")
	for s, want := range map[string]bool{"ac": true, "bc": true, "xbc": true, "xac": false, "aac": false, "abc": true, "": false} {
		wantRead(t, "(^a|b)c", a, s, want)
	}
	a = automaton(t, "a^b")
	for _, s := range []string{"", "ab", "b", "aab", "a\nb"} {
		wantRead(t, "a^b", a, s, false)
	}
}

// P9.1: End lets pass just where the text ends: no state has what is behind it.
func TestEnd(t *testing.T) {
	a := automaton(t, "ab$")
	wantStep(t, "ab$", a, 0, 'a', 1)
	wantStep(t, "ab$", a, 1, 'b', 2)
	wantState(t, "ab$", a, 2, false, true)
	wantStep(t, "ab$", a, 2, 'b', 3)
	wantState(t, "ab$", a, 3, false, false)
	wantStep(t, "ab$", a, 2, 'a', 1)
	wantStep(t, "ab$", a, 2, '\n', 3)
	a = automaton(t, "a$b")
	wantStep(t, "a$b", a, 0, 'a', 1)
	wantState(t, "a$b", a, 1, false, false)
	wantStep(t, "a$b", a, 1, 'b', 2)
	wantState(t, "a$b", a, 2, false, false)
	// An End is of the rest, though nothing behind it ends well.
	wantStep(t, "a$b", a, 0, 'c', 2)
	wantLen(t, "a$b", a, 3)
	a = automaton(t, "a$$(b|$)$")
	wantStep(t, "a$$(b|$)$", a, 0, 'a', 1)
	wantState(t, "a$$(b|$)$", a, 1, false, true)
}

// P9.1: Byte: a byte of its set, whatever bytes there are.
func TestBytes(t *testing.T) {
	for i := range 256 {
		for _, set := range []octet.Set{octet.Of(byte(i)), octet.Span(0, byte(i)), {}, octet.Set{}.Not(), octet.Of(byte(i)).Not()} {
			a := made(t, compiled(t, tree.One{Set: set}), 3)
			for b := range 256 {
				next, e := a.Step(0, byte(b))
				if e != api.OK || a.Sure(next) != set.Has(byte(b)) {
					t.Fatalf("P9.1: Step of %v with %d: sure %t, error %d", set.Spans(), b, a.Sure(next), e)
				}
			}
			wantRead(t, "a set", a, "", false)
			wantRead(t, "a set", a, string([]byte{byte(i)}), set.Has(byte(i)))
		}
	}
	a := automaton(t, "\xc3[^\xa9]$")
	wantRead(t, "bytes above 7F", a, "a\xc3\x00", true)
	wantRead(t, "bytes above 7F", a, "é", false)
}

// P9.1: Save, Enter and Round let pass, also where a round had no byte: so much is in a rest.
func TestRounds(t *testing.T) {
	// Each of both rounds may be left without a byte, so that an a changes nothing in the rest.
	a := automaton(t, "(a?){0,2}b$")
	wantStep(t, "(a?){0,2}b$", a, 0, 'x', 1)
	wantStep(t, "(a?){0,2}b$", a, 0, 'a', 1)
	wantStep(t, "(a?){0,2}b$", a, 1, 'a', 1)
	// Of rounds that must have a byte, it does.
	a = automaton(t, "a{0,2}b$")
	wantStep(t, "a{0,2}b$", a, 0, 'x', 1)
	wantStep(t, "a{0,2}b$", a, 0, 'a', 2)
	wantStep(t, "a{0,2}b$", a, 2, 'a', 2)
	for _, regex := range []string{"(a*)*b", "((a*)*)*b", "(a|b*)*b", "(()*)*b", "(^)*b", "((a?)(c?))+b"} {
		a := automaton(t, regex)
		wantRead(t, regex, a, "aaa", false)
		wantRead(t, regex, a, "aaab", true)
	}
}

// P9.1: states are numbered as they are met, by whichever call.
func TestNumbers(t *testing.T) {
	a := automaton(t, "abc$")
	wantStep(t, "abc$", a, 0, 'a', 1)
	wantRead(t, "abc$", a, "abc", true)
	wantLen(t, "abc$", a, 4)
	wantStep(t, "abc$", a, 1, 'b', 2)
	wantStep(t, "abc$", a, 2, 'c', 3)
	wantRead(t, "abc$", a, "x", false)
	wantLen(t, "abc$", a, 5)
	wantStep(t, "abc$", a, 3, 'x', 4)
	a = automaton(t, "abc$")
	wantStep(t, "abc$", a, 0, 'x', 1)
	wantStep(t, "abc$", a, 1, 'a', 2)
	wantRead(t, "abc$", a, "abca", false)
	wantLen(t, "abc$", a, 5)
	wantStep(t, "abc$", a, 4, 'a', 2)
	wantState(t, "abc$", a, 4, false, true)
}

// P9.1: of a state that wasn't met there is no step, and it is neither sure nor ends well.
func TestNotMet(t *testing.T) {
	for _, regex := range []string{"", "a*$", "ab"} {
		for most := 1; most < 4; most++ {
			a := made(t, extended(t, regex), most)
			a.Reads("ab")
			known := a.Len()
			for _, state := range []int{-1, known, known + 1, -2, 100000, math.MinInt, math.MaxInt, 1 << 32} {
				for _, b := range []byte{0, 'a', 255} {
					if got, e := a.Step(state, b); got != 0 || e != api.ErrRange {
						t.Errorf("P9.1: Step of %s from %d: %d, error %d, want 0, error %d", regex, state, got, e, api.ErrRange)
					}
				}
				wantState(t, regex, a, state, false, false)
			}
			wantLen(t, regex, a, known)
		}
	}
}

// P9.1: ErrCap just of a state that would be one more than may be met; what was met stays, and steps to it.
func TestCap(t *testing.T) {
	a := made(t, extended(t, "abc$"), 3)
	wantStep(t, "abc$", a, 0, 'a', 1)
	wantStep(t, "abc$", a, 1, 'b', 2)
	for range 2 {
		for _, x := range []struct {
			state int
			b     byte
		}{{2, 'c'}, {0, 'x'}, {0, 'b'}, {1, 'x'}, {2, 'x'}} {
			if got, e := a.Step(x.state, x.b); got != 0 || e != api.ErrCap {
				t.Errorf("P9.1: Step from %d with %q: %d, error %d, want 0, error %d", x.state, x.b, got, e, api.ErrCap)
			}
		}
		wantLen(t, "abc$", a, 3)
		wantStep(t, "abc$", a, 2, 'a', 1)
		wantStep(t, "abc$", a, 1, 'b', 2)
		wantState(t, "abc$", a, 2, false, false)
		wantCapped(t, "abc$", a, "abc")
		wantCapped(t, "abc$", a, "x")
		wantRead(t, "abc$", a, "abab", false)
	}
	// A state that is sure is one as well.
	a = made(t, extended(t, "a"), 1)
	wantCapped(t, "a", a, "a")
	a = made(t, extended(t, "a"), 2)
	wantRead(t, "a", a, "axx", true)
	wantCapped(t, "a", a, "x")
}

// P9.1 and P8 (R4): a text that can't be read leaves no state behind it.
func TestCappedReads(t *testing.T) {
	a := made(t, extended(t, "ab$"), 3)
	wantCapped(t, "ab$", a, "xab")
	wantLen(t, "ab$", a, 1)
	wantState(t, "ab$", a, 1, false, false)
	if got, e := a.Step(1, 'a'); got != 0 || e != api.ErrRange {
		t.Errorf("P8 (R4): Step from a state that wasn't met: %d, error %d", got, e)
	}
	wantStep(t, "ab$", a, 0, 'a', 1)
	wantCapped(t, "ab$", a, "abb")
	wantLen(t, "ab$", a, 2)
	wantStep(t, "ab$", a, 1, 'b', 2)
	wantState(t, "ab$", a, 2, false, true)
	wantRead(t, "ab$", a, "ab", true)
	wantCapped(t, "ab$", a, "abb")
	wantLen(t, "ab$", a, 3)
	// What wasn't met may be, by another call, in another order.
	a = made(t, extended(t, "ab$"), 3)
	wantCapped(t, "ab$", a, "xab")
	wantRead(t, "ab$", a, "ab", true)
	wantStep(t, "ab$", a, 0, 'a', 1)
	a = made(t, extended(t, "ab$"), 3)
	wantCapped(t, "ab$", a, "xab")
	wantRead(t, "ab$", a, "xa", false)
	wantStep(t, "ab$", a, 0, 'a', 2)
}

// P9.1: basic regexes as well as extended ones.
func TestBasic(t *testing.T) {
	for _, x := range []struct {
		regex, s string
		want     bool
	}{{`\(a\|b\)\{2\}$`, "xab", true}, {`\(a\|b\)\{2\}$`, "abx", false}, {"*a", "x*a", true}, {"^*a", "x*a", false}} {
		n, _, _, e := bre.Parse(x.regex)
		if e != api.OK {
			t.Fatalf("Parse of %s: error %d", x.regex, e)
		}
		wantRead(t, x.regex, made(t, compiled(t, n), 100), x.s, x.want)
	}
}

// reading is the chapter's words once more: of each text for itself.
type reading struct{ p code.Program }

// stand adds where the program stands at a place, from an instruction.
func (r reading) stand(at map[int]bool, inst, place int, end bool) {
	if at[inst] {
		return
	}
	at[inst] = true
	switch i := r.p.Insts[inst]; i.Op {
	case code.Split:
		r.stand(at, i.X, place, end)
		r.stand(at, i.Y, place, end)
	case code.Jump:
		r.stand(at, i.X, place, end)
	case code.Save, code.Enter, code.Round:
		r.stand(at, inst+1, place, end)
	case code.Begin:
		if place == 0 {
			r.stand(at, inst+1, place, end)
		}
	case code.End:
		if end {
			r.stand(at, inst+1, place, end)
		}
	}
}

// matched tells whether Match is one of some instructions.
func (r reading) matched(at map[int]bool) bool {
	return at[len(r.p.Insts)-1]
}

// state is what a text leaves, as a text, and whether that is sure, and ends well.
func (r reading) state(s string) (left string, sure, ends bool) {
	var rest []int
	for place := range len(s) + 1 {
		at := map[int]bool{}
		r.stand(at, 0, place, false)
		for _, inst := range rest {
			if i := r.p.Insts[inst]; i.Op == code.Byte && i.Set.Has(s[place-1]) {
				r.stand(at, inst+1, place, false)
			}
		}
		if r.matched(at) {
			return "sure", true, true
		}
		rest = nil
		for inst, i := range r.p.Insts {
			if at[inst] && (i.Op == code.Byte || i.Op == code.End) {
				rest = append(rest, inst)
			}
		}
	}
	at := map[int]bool{}
	for _, inst := range rest {
		r.stand(at, inst, len(s), true)
	}
	if s == "" {
		return "empty", false, r.matched(at)
	}
	return fmt.Sprint(rest), false, r.matched(at)
}

// wantAll holds an automaton, text by text, against the second reading, and against where the regex matches; each text but the first one stands behind the one that it goes on from. It tells how many states were met.
func wantAll(t *testing.T, regex string, p code.Program, most int, texts []string) int {
	t.Helper()
	a, m, r := made(t, p, most), match.New(p), reading{p}
	numbers := map[string]int{} // of texts, as far as they could be read
	met := map[string]int{}     // of states
	for _, s := range texts {
		left, sure, ends := r.state(s)
		number, known := met[left]
		if s != "" {
			from, could := numbers[s[:len(s)-1]]
			if !could {
				continue
			}
			got, e := a.Step(from, s[len(s)-1])
			if !known && len(met) == most {
				if got != 0 || e != api.ErrCap {
					t.Fatalf("P9.1: Step of %s to %q: %d, error %d, want error %d", regex, s, got, e, api.ErrCap)
				}
				wantCapped(t, regex, a, s)
				continue
			}
			if !known {
				number = len(met)
			}
			if got != number || e != api.OK {
				t.Fatalf("P9.1: Step of %s to %q: %d, error %d, want %d", regex, s, got, e, number)
			}
		}
		met[left], numbers[s] = number, number
		if a.Sure(number) != sure || a.Ends(number) != ends || a.Len() != len(met) {
			t.Fatalf("P9.1: state %d of %s, behind %q: sure %t, ends well %t, one of %d; want %t, %t, %d", number, regex, s, a.Sure(number), a.Ends(number), a.Len(), sure, ends, len(met))
		}
		if got, e := a.Reads(s); got != m.Has(s) || e != api.OK || a.Len() != len(met) {
			t.Fatalf("P9.2: Reads of %s of %q: %t, error %d, and %d states of %d", regex, s, got, e, a.Len(), len(met))
		}
	}
	return len(met)
}

// texts is all texts of up to so many bytes of some.
func texts(bytes string, most int) []string {
	all := []string{""}
	for from := 0; most > 0; most-- {
		to := len(all)
		for _, s := range all[from:to] {
			for _, c := range bytes {
				all = append(all, s+string(c))
			}
		}
		from = to
	}
	return all
}

// P9.1 and P9.2: of all short regexes, all short texts.
func TestAllShortRegexes(t *testing.T) {
	parts := []string{"a", "b", "*", "^", "$", "(", ")", "|", "{2}", "{0,2}", "+", "?"}
	regexes, right, met := []string{""}, 0, 0
	in := [][]string{nil, texts("abc", 5), texts("abc", 5), texts("abc", 4), texts("abc", 3), texts("abc", 2)}
	for size := 1; size <= 5; size++ {
		var longer []string
		for _, s := range regexes {
			for _, part := range parts {
				longer = append(longer, s+part)
			}
		}
		for k, regex := range longer {
			n, _, _, e := ere.Parse(regex)
			if e != api.OK {
				continue
			}
			right++
			most := 1000
			if k%4 == 0 {
				most = 1 + k%3
			}
			met += wantAll(t, regex, compiled(t, n), most, in[size])
		}
		regexes = longer
	}
	if right < 20000 || met < 30000 {
		t.Errorf("only %d texts were regexes, and only %d states were met", right, met)
	}
}

// numbers tells numbers by a short rule.
type numbers struct{ x uint32 }

func (r *numbers) next(n int) int {
	r.x ^= r.x << 13
	r.x ^= r.x >> 17
	r.x ^= r.x << 5
	return int(r.x % uint32(n))
}

// regex is a text that may be an extended regex: all groups that it opens it closes.
func (r *numbers) regex() string {
	parts := []string{"a", "a", "b", "b", "[^a]", "[ab]", "(", "(", "(", "(", ")", ")", "|", "|", "*", "+", "?", "{2}", "{0,2}", "{1,3}", "^", "$", "$"}
	var s strings.Builder
	open := 0
	for range 4 + r.next(12) {
		part := parts[r.next(len(parts))]
		switch {
		case part == "(":
			open++
		case part == ")" && open == 0:
			continue
		case part == ")":
			open--
		}
		s.WriteString(part)
	}
	return s.String() + strings.Repeat(")", open)
}

// P9.1 and P9.2: of longer regexes, with no, few, and many states.
func TestLongerRegexes(t *testing.T) {
	r := &numbers{2463534242}
	in := texts("abc", 4)
	right, met := 0, 0
	for i := range 16000 {
		regex := r.regex()
		n, _, _, e := ere.Parse(regex)
		if e != api.OK {
			continue
		}
		p, e := code.Compile(n)
		if e != api.OK {
			continue
		}
		right++
		met += wantAll(t, regex, p, []int{1, 2, 3, 5, 8, 1000, 1000, 1000, 1000}[i%9], in)
	}
	if right < 3000 || met < 9000 {
		t.Errorf("only %d texts were regexes, and only %d states were met", right, met)
	}
}

// P9.2: Reads answers as Has does of longer texts, too; of a fresh automaton as of one that read others.
func TestReadsAsHas(t *testing.T) {
	r := &numbers{88675123}
	with, without := 0, 0
	for range 3000 {
		regex := r.regex()
		n, _, _, e := ere.Parse(regex)
		if e != api.OK {
			continue
		}
		p := compiled(t, n)
		a, m := made(t, p, 100000), match.New(p)
		for range 8 {
			var s []byte
			for range r.next(30) {
				s = append(s, "aaabbbbc\n\xff"[r.next(10)])
			}
			has := m.Has(string(s))
			if has {
				with++
			} else {
				without++
			}
			for _, a := range []*Auto{a, made(t, p, 100000)} {
				if got, e := a.Reads(string(s)); got != has || e != api.OK {
					t.Fatalf("P9.2: Reads of %s of %q: %t, error %d", regex, s, got, e)
				}
			}
		}
	}
	if with < 2000 || without < 1000 {
		t.Errorf("only %d had a match, and %d none", with, without)
	}
}

// P9.1: all states of an automaton, as many as there may be, and no more.
func TestManyStates(t *testing.T) {
	// Of a text it must be known at which of the last 17 places there is an a.
	for _, most := range []int{1, 1000, 100000} {
		a := made(t, extended(t, "a[ab]{16}$"), most)
		capped := 0
		for state := 0; state < a.Len(); state++ {
			for _, b := range []byte("ab") {
				if next, e := a.Step(state, b); e == api.ErrCap && next == 0 {
					capped++
				} else if e != api.OK || next >= a.Len() {
					t.Fatalf("P9.1: Step from %d: %d, error %d", state, next, e)
				}
			}
		}
		if a.Len() != most || capped == 0 {
			t.Errorf("P9.1: %d states, want %d; %d steps led to more", a.Len(), most, capped)
		}
	}
	a := automaton(t, "a[ab]{12}$")
	for state := 0; state < a.Len(); state++ {
		a.Step(state, 'a')
		a.Step(state, 'b')
	}
	// One beside them for the empty text.
	wantLen(t, "a[ab]{12}$", a, 1<<13+1)
	wantRead(t, "a[ab]{12}$", a, "bba"+strings.Repeat("b", 12), true)
	wantRead(t, "a[ab]{12}$", a, "bba"+strings.Repeat("b", 13), false)
	wantLen(t, "a[ab]{12}$", a, 1<<13+1)
}

// P7: the calls end of long texts, and are deep in no calls within calls.
func TestLongTexts(t *testing.T) {
	defer debug.SetMaxStack(debug.SetMaxStack(1 << 20))
	as := strings.Repeat("a", 300_000)
	for regex, want := range map[string]bool{"b": false, "a*b": false, "(a|b)*$": true, "^(aa)*$": true, "^(aaa)*b$": false, "^a{200}": true, "a{3}$": true} {
		a := automaton(t, regex)
		wantRead(t, regex, a, as, want)
		if a.Len() > 210 {
			t.Errorf("P9.1: %s has %d states", regex, a.Len())
		}
	}
	wantCapped(t, "a{250}", made(t, extended(t, "a{250}"), 250), as)
}

// P7: the calls end of programs as long as they may be.
func TestLongPrograms(t *testing.T) {
	defer debug.SetMaxStack(debug.SetMaxStack(1 << 20))
	const room = api.MaxCode - 3
	var a, groups, ends tree.Node = tree.One{Set: octet.Of('a')}, nil, tree.Cat{Parts: slices.Repeat([]tree.Node{tree.End{}}, room)}
	for i := range room / 2 {
		groups = tree.Group{Number: room/2 - i, Of: groups}
	}
	reps := a
	for range room/4 - 1 {
		reps = tree.Rep{Of: reps, Max: -1}
	}
	for _, x := range []struct {
		name   string
		n      tree.Node
		s      string
		want   bool
		states int
	}{
		{"none of many branches", tree.Alt{Parts: make([]tree.Node, room/2)}, "a", true, 1},
		{"many bytes", tree.Cat{Parts: slices.Repeat([]tree.Node{a}, room)}, strings.Repeat("a", room), true, room + 1},
		{"many bytes, but one", tree.Cat{Parts: slices.Repeat([]tree.Node{a}, room)}, strings.Repeat("a", room-1), false, room},
		{"branches", tree.Alt{Parts: slices.Repeat([]tree.Node{a}, room/3)}, "bab", true, 3},
		{"Reps", tree.Cat{Parts: []tree.Node{reps, tree.End{}}}, "aaa", true, 2},
		{"groups", groups, "", true, 1},
		{"Ends", ends, "ab", true, 2},
	} {
		auto := made(t, compiled(t, x.n), 100000)
		wantRead(t, x.name, auto, x.s, x.want)
		wantLen(t, x.name, auto, x.states)
	}
}

// P7: the program that Compile answers beside an error has no match.
func TestNoProgram(t *testing.T) {
	p, e := code.Compile(tree.Back{Number: 1})
	if e == api.OK {
		t.Fatal("Compile of a Back alone: no error")
	}
	a := made(t, p, 2)
	for _, s := range []string{"", "a", "ab"} {
		wantRead(t, "no program", a, s, false)
	}
	wantState(t, "no program", a, 0, false, false)
	wantState(t, "no program", a, 1, false, false)
	wantLen(t, "no program", a, 2)
}

// P8 (R6): a program that is handed in is neither changed nor kept, spare room included.
func TestProgramIsNotKept(t *testing.T) {
	p := extended(t, "(a|b)*c$")
	whole := append(slices.Clone(p.Insts), code.Inst{Op: code.Jump, X: -7}, code.Inst{Op: code.Match})
	before := slices.Clone(whole)
	p.Insts = whole[:len(p.Insts)]
	a := made(t, p, 10)
	wantRead(t, "(a|b)*c$", a, "xab", false)
	if !slices.Equal(whole, before) {
		t.Error("P8 (R6): the program was changed")
	}
	for i := range whole {
		whole[i] = code.Inst{Op: code.Match}
	}
	wantRead(t, "(a|b)*c$", a, "abc", true)
	wantRead(t, "(a|b)*c$", a, "abca", false)
	wantState(t, "(a|b)*c$", a, 0, false, false)
}

// P8 (R8): what is answered depends on what was asked of that automaton alone, and is the same again.
func TestSameAnswersAgain(t *testing.T) {
	p := extended(t, "(a|bb)*c$|^b")
	all := []*Auto{made(t, p, 6), made(t, p, 6), made(t, p, 6)}
	in := texts("abc", 4)
	var first []string
	for k, a := range all {
		for i, s := range in {
			if k == 1 {
				all[2].Sure(i)
				all[2].Ends(0)
			}
			reads, e := a.Reads(s)
			next, f := a.Step(i%8-1, "abc"[i%3])
			got := fmt.Sprint(reads, e, next, f, a.Len(), a.Sure(next), a.Ends(next))
			if k == 0 {
				first = append(first, got)
			} else if got != first[i] {
				t.Errorf("P8 (R8): behind %q: %s, at first %s", s, got, first[i])
			}
		}
	}
}
