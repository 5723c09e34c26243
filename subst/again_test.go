package subst

import (
	"fmt"
	"reflect"
	"regexp"
	"slices"
	"strings"
	"testing"

	"placket/api"
	"placket/cmd"
	"placket/code"
	"placket/ere"
	"placket/match"
)

// texts is all texts of so many of some signs at most.
func texts(signs string, most int) []string {
	all := []string{""}
	for from := 0; most > 0; most-- {
		to := len(all)
		for _, s := range all[from:to] {
			for i := range len(signs) {
				all = append(all, s+signs[i:i+1])
			}
		}
		from = to
	}
	return all
}

// regexOf is an extended regex; false, if it is none.
func regexOf(s string) (*match.Regex, bool) {
	n, _, _, e := ere.Parse(s)
	if e != api.OK {
		return nil, false
	}
	p, e := code.Compile(n)
	return match.New(p), e == api.OK
}

// matchesAgain is Matches again: the text is gone through place by place, and of each it is asked whether a match begins there.
func matchesAgain(r *match.Regex, s string) [][]int {
	var all [][]int
	end := 0
	for place := range len(s) + 1 {
		slots, ok := r.Find(s, place)
		here := ok && slots[0] == place && place >= end
		if again := len(all) > 0 && place == end && here && slots[1] == end; here && !again {
			all, end = append(all, slots), slots[1]
		}
	}
	return all
}

// applyAgain is Apply again: of all matches those are kept that are replaced, and the text is changed from its end on, so that places ahead stay what they are.
func applyAgain(r *match.Regex, x cmd.Sub, s string) (string, int) {
	kept := matchesAgain(r, s)
	kept = kept[min(len(kept), max(1, x.Nth)-1):]
	if !x.All {
		kept = kept[:min(len(kept), 1)]
	}
	made := s
	for _, slots := range slices.Backward(kept) {
		made = made[:slots[0]] + replaceAgain(x, s, slots) + made[slots[1]:]
	}
	return made, len(kept)
}

// replaceAgain is Replace again: what groups matched stands in a table.
func replaceAgain(x cmd.Sub, s string, slots []int) string {
	groups := map[int]string{}
	for pair := range slices.Chunk(slots, 2) {
		if pair[0] >= 0 {
			groups[len(groups)] = s[pair[0]:pair[1]]
		} else {
			groups[len(groups)] = ""
		}
	}
	made := ""
	for _, part := range x.Parts {
		made += part.Text + groups[part.Group]
	}
	return made
}

// wantAgain holds all that is made of a text by these flags against the second readings.
func wantAgain(t *testing.T, name string, r *match.Regex, s string) {
	t.Helper()
	if got, want := Matches(r, s), matchesAgain(r, s); len(got) != len(want) || len(got) > 0 && !reflect.DeepEqual(got, want) {
		t.Fatalf("P18.1: Matches of %s in %q: %v, want %v", name, s, got, want)
	}
	x := of(words("<"), group(0), group(1), words("-"), group(2), words(">"))
	for x.Nth = range 4 {
		for _, x.All = range []bool{false, true} {
			got, n := Apply(r, x, s)
			if want, count := applyAgain(r, x, s); got != want || n != count {
				t.Fatalf("P18.1: Apply of %s with Nth %d, All %t, in %q: %q, %d, want %q, %d", name, x.Nth, x.All, s, got, n, want, count)
			}
		}
	}
}

// P18.1: of all short regexes, in all short texts, the matches begin and end where the library's longest ones do.
func TestPlacesAgain(t *testing.T) {
	held := 0
	for _, s := range texts("ab|*()^$", 4) {
		again, err := regexp.Compile("(?s)" + s)
		r, ok := regexOf(s)
		if err != nil || !ok {
			continue
		}
		again.Longest()
		for _, text := range texts("ab\n", 4) {
			held++
			var got [][]int
			for _, slots := range Matches(r, text) {
				got = append(got, slots[:2])
			}
			if want := again.FindAllStringIndex(text, -1); fmt.Sprint(got) != fmt.Sprint(want) {
				t.Fatalf("P18.1: Matches of %s in %q: %v, want %v", s, text, got, want)
			}
		}
	}
	if held < 50000 {
		t.Errorf("only %d were held against each other", held)
	}
}

// P18.1: of all short regexes, in all short texts, each call answers as the second readings do.
func TestShortAgain(t *testing.T) {
	held := 0
	for _, s := range texts("ab|*()^$", 4) {
		r, ok := regexOf(s)
		for _, text := range texts("ab", 4) {
			if ok {
				held++
				wantAgain(t, s, r, text)
			}
		}
	}
	if held < 10000 {
		t.Errorf("only %d were held against each other", held)
	}
}

// numbersFrom makes numbers below others, the same ones each time.
func numbersFrom(x uint32) func(below int) int {
	return func(below int) int {
		x ^= x << 13
		x ^= x >> 17
		x ^= x << 5
		return int(x % uint32(below))
	}
}

// P18.1: the same of longer regexes with groups and what asks for them, in longer texts of any bytes.
func TestLongerAgain(t *testing.T) {
	parts := []string{"a", "b", ".", "[^a]", "(", "(a", "(b*", ")", ")", "|", "*", "+", "?", "{2}", "\\1", "\\2", "^", "$", "(a|b)", "(a*)", "(ab|b)?", "\\n"}
	signs := "aaaabbbb\n\x00\xffé"
	next := numbersFrom(2463534242)
	held := 0
	for range 60000 {
		var regex, text strings.Builder
		for range 1 + next(7) {
			regex.WriteString(parts[next(len(parts))])
		}
		for range next(14) {
			text.WriteByte(signs[next(len(signs))])
		}
		if r, ok := regexOf(regex.String()); ok {
			held++
			wantAgain(t, regex.String(), r, text.String())
		}
	}
	if held < 5000 {
		t.Errorf("only %d were held against each other", held)
	}
}

// P18.1, R9: of any parts, slots and texts Replace answers what stands between slots that are places of the text, one behind the other.
func TestAnySlotsAgain(t *testing.T) {
	next := numbersFrom(88172645)
	for range 100000 {
		s := "abcdefgh"[:next(9)]
		slots := make([]int, next(8))
		for i := range slots {
			slots[i] = next(12) - 2
		}
		var x cmd.Sub
		want := ""
		for range next(5) {
			part := cmd.Part{Group: next(7) - 2, Text: "xyz"[:next(4)]}
			x.Parts = append(x.Parts, part)
			at := 2 * part.Group
			switch {
			case part.Group == -1:
				want += part.Text
			case at >= 0 && at+1 < len(slots) && 0 <= slots[at] && slots[at] <= slots[at+1] && slots[at+1] <= len(s):
				want += s[slots[at]:slots[at+1]]
			}
		}
		if got := Replace(x, s, slots); got != want {
			t.Fatalf("P18.1: Replace of %v in %q with %v: %q, want %q", x.Parts, s, slots, got, want)
		}
	}
}
