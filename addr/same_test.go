package addr

import (
	"testing"

	"placket/octet"
	"placket/tree"
)

// distinct are addresses of which no two are the same.
func distinct() []Address {
	all := []Address{{}, line(1), line(2), line(1 << 40), last(), plus(0), plus(1), plus(2)}
	for _, text := range []string{"a", "b", "ab", "[ab]", "a|b", "(a)", "a*", "a+", "^a", "a$", "()"} {
		address, _ := regexOf(text, true)
		all = append(all, address)
	}
	return all
}

// wantSame holds whether two addresses are the same, whichever is told first, alone and in guards.
func wantSame(t *testing.T, a, b Address, want bool) {
	t.Helper()
	if Same(a, b) != want || Same(b, a) != want {
		t.Errorf("P12.1: Same of %v and %v: %t, %t", a, b, Same(a, b), Same(b, a))
	}
	for _, pair := range [][2]Guard{{only(a), only(b)}, {not(a), not(b)}, {from(last(), a), from(last(), b)}, {notFrom(a, a), notFrom(b, b)}, {from(a, a), from(a, b)}, {from(a, b), from(b, b)}} {
		if SameGuard(pair[0], pair[1]) != want || SameGuard(pair[1], pair[0]) != want {
			t.Errorf("P12.1: SameGuard of %v and %v: %t", pair[0], pair[1], SameGuard(pair[0], pair[1]))
		}
	}
}

// P12.1: addresses that are the same are of one kind, and of one number or tree.
func TestSame(t *testing.T) {
	all, again := distinct(), distinct()
	for i, a := range all {
		for j, b := range again {
			wantSame(t, a, b, i == j)
		}
	}
}

// P12.1: regexes are the same by their trees, however they are written, and whichever kind they are of.
func TestSameRegexes(t *testing.T) {
	for _, c := range []struct {
		basic, extended string
		want            bool
	}{
		{"a", "a", true}, {"a", "[a]", true}, {"[ab]", "[b-ba]", true}, {"a\\+", "a+", true}, {"a\\{1,\\}", "a+", true}, {"a\\?", "a{0,1}", true}, {"\\(a\\|b\\)\\1", "(a|b)\\1", true}, {"\\w", "[[:alnum:]_]", true}, {"a*", "a{0,}", true}, {"(", "\\(", true}, {"^a$", "^a$", true},
		{"a+", "a+", false}, {"a", "a{1}", false}, {"a", "(a)", false}, {"a|b", "a|b", false}, {"a\\|b", "b|a", false}, {"a\\|b", "[ab]", false}, {"aa", "a{2}", false}, {"a^", "a^", false}, {"a", "A", false},
	} {
		a, _ := regexOf(c.basic, false)
		b, _ := regexOf(c.extended, true)
		wantSame(t, a, b, c.want)
		b.Text = a.Text
		wantSame(t, a, b, c.want)
	}
	// A tree that isn't told is as Empty.
	wantSame(t, Address{Kind: Regex}, Address{Kind: Regex, Text: "a", Tree: tree.Empty{}}, true)
	wantSame(t, Address{Kind: Regex}, Address{Kind: Regex, Tree: tree.Start{}}, false)
}

// P12.1: a field that has no meaning in an address's kind doesn't count.
func TestSameButForOtherFields(t *testing.T) {
	node := tree.One{Set: octet.Of('a')}
	for _, a := range distinct() {
		b := a
		b.Text = "z"
		if a.Kind != Line && a.Kind != Plus {
			b.Line = 9
		}
		if a.Kind != Regex {
			b.Tree = node
		}
		wantSame(t, a, b, true)
	}
	wantSame(t, Address{Kind: Last, Line: 1}, Address{Kind: None, Line: 1}, false)
	wantSame(t, Address{Kind: Line, Line: 1, Tree: node}, Address{Kind: Regex, Line: 1, Tree: node}, false)
}

// P12.1: guards are the same, if both addresses are, and both are not, or neither.
func TestSameGuard(t *testing.T) {
	var all, again []Guard
	for _, a := range distinct() {
		for _, b := range distinct() {
			all = append(all, from(a, b), notFrom(a, b))
			again = append(again, from(a, b), notFrom(a, b))
		}
	}
	for i, a := range all {
		for j, b := range again {
			if SameGuard(a, b) != (i == j) {
				t.Fatalf("P12.1: SameGuard of %v and %v: %t", a, b, i != j)
			}
		}
	}
}

// P12.1: what is read of the same guard, written otherwise, is the same.
func TestSameOfParsedGuards(t *testing.T) {
	read := func(s string, extended bool) Guard {
		g, _, _, _ := ParseGuard(s, 0, extended)
		return g
	}
	for s, other := range map[string]string{"1,/a+/!p": "01 , \\xa{1,}x ! d", "$!": "$ !", "/[/]/": "/\\//", "": " ", "!": " ! ", "1,+2": "1, +02", "\\,a\\,,p": "/a,/"} {
		if a, b := read(s, true), read(other, true); !SameGuard(a, b) {
			t.Errorf("P12.1: SameGuard of %q and %q", s, other)
		}
	}
	if SameGuard(read("/a+/", true), read("/a+/", false)) {
		t.Error("P12.1: SameGuard of one text in both kinds")
	}
}

// R7 and P7: the calls answer of addresses of any value, of kinds that aren't there and of very deep trees too.
func TestSameOfAnyValues(t *testing.T) {
	kinds := []Kind{-1 << 63, -1, None, Line, Last, Regex, Plus, 5, 99, 1<<63 - 1}
	for i, a := range kinds {
		for j, b := range kinds {
			wantSame(t, Address{Kind: a, Line: -1}, Address{Kind: b, Line: -1}, i == j)
		}
	}
	wantSame(t, line(-1), line(1), false)
	wantSame(t, line(0), Address{}, false)
	wantSame(t, plus(-1<<63), plus(1<<63-1), false)
	deep := func(of tree.Node) Address {
		for i := range 100000 {
			of = tree.Group{Number: i, Of: of}
		}
		return Address{Kind: Regex, Tree: of}
	}
	if !Same(deep(nil), deep(tree.Empty{})) || Same(deep(nil), deep(tree.End{})) {
		t.Error("P12.1: Same of deep trees")
	}
}
