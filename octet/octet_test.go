package octet

import (
	"slices"
	"strings"
	"testing"
)

// The types and calls are just those that the chapter lists (R11).
var (
	_ [4]uint64                     = Set{}
	_ func(...byte) Set             = Of
	_ func(byte, byte) Set          = Span
	_ func(string) (Set, bool)      = Class
	_ func(Set, byte) bool          = Set.Has
	_ func(Set, Set) Set            = Set.And
	_ func(Set, Set) Set            = Set.Or
	_ func(Set) Set                 = Set.Not
	_ func(Set) int                 = Set.Len
	_ func(Set) (byte, bool)        = Set.Least
	_ func(Set) [][2]byte           = Set.Spans
	_ func(string) string           = Wide
	_ func(w string) (string, bool) = Narrow
)

// edges are the bytes at the ends of the words of a set, and some between.
var edges = []byte{0, 1, 62, 63, 64, 65, 127, 128, 191, 192, 254, 255}

// full is the whole set, written by its words.
var full = Set{^uint64(0), ^uint64(0), ^uint64(0), ^uint64(0)}

// samples are sets of many kinds: none, all, edges, one byte each, mixed ones.
func samples() []Set {
	l := []Set{{}, full, Of(edges...), Of(edges...).Not(), {1, 2, 3, 4}}
	for i := range 256 {
		l = append(l, Of(byte(i)), Span(byte(i), 255), Span(0, byte(i)))
	}
	// A short rule of remainders, that makes the words look mixed.
	x := uint64(88172645463325252)
	for range 200 {
		var s Set
		for i := range s {
			x ^= x << 13
			x ^= x >> 7
			x ^= x << 17
			s[i] = x
		}
		l = append(l, s, s.And(Set{x, x >> 9, x << 9, ^x}))
	}
	return l
}

// has looks at a set's words as the chapter describes them.
func has(s Set, b int) bool { return s[b/64]&(1<<(b%64)) != 0 }

// P1.1: the byte b is in the set, if of the word b / 64 the bit b modulo 64 is 1.
func TestOfSetsTheBitOfEachByte(t *testing.T) {
	for b, want := range map[byte]Set{
		0:   {1},
		63:  {1 << 63},
		64:  {0, 1},
		127: {0, 1 << 63},
		128: {0, 0, 1},
		192: {0, 0, 0, 1},
		255: {0, 0, 0, 1 << 63},
	} {
		if got := Of(b); got != want {
			t.Errorf("P1.1: Of(%d): %x", b, got)
		}
	}
	if Of() != (Set{}) || Of([]byte(nil)...) != (Set{}) {
		t.Error("P1.1: Of none isn't the empty set")
	}
	if Of('b', 'a', 'b') != Of('a', 'b') || Of('b', 'a').Len() != 2 {
		t.Error("P1.1: Of hangs on order, or counts a byte twice")
	}
	if Of(0, 255, 64) != (Set{1, 1, 0, 1 << 63}) {
		t.Error("P1.1: Of several")
	}
}

// P8 (R6): what is handed in is neither changed nor kept, spare room included.
func TestOfLeavesItsArgumentAlone(t *testing.T) {
	room := []byte{3, 1, 2, 9}
	s := Of(room[:3]...)
	if !slices.Equal(room, []byte{3, 1, 2, 9}) {
		t.Errorf("P8: Of changed its argument: %v", room)
	}
	room[0] = 200
	if s != Of(1, 2, 3) {
		t.Error("P8: Of kept its argument")
	}
}

// P1.1: a span has all bytes from one to another one, none if that is less.
func TestSpanOfAllPairs(t *testing.T) {
	for from := range 256 {
		for to := range 256 {
			s := Span(byte(from), byte(to))
			if want := max(0, to-from+1); s.Len() != want {
				t.Fatalf("P1.1: Span(%d, %d) has %d bytes, not %d", from, to, s.Len(), want)
			}
			if from > to && s != (Set{}) {
				t.Fatalf("P1.1: Span(%d, %d) isn't empty", from, to)
			}
			if from <= to && (!has(s, from) || !has(s, to)) {
				t.Fatalf("P1.1: Span(%d, %d) hasn't its ends", from, to)
			}
		}
	}
	if Span(0, 255) != full || Span(63, 64) != (Set{1 << 63, 1}) || Span(1, 0) != (Set{}) || Span(255, 0) != (Set{}) {
		t.Error("P1.1: Span at the ends of words")
	}
	for b := range 256 {
		if has(Span('b', 'y'), b) != (b >= 'b' && b <= 'y') {
			t.Errorf("P1.1: Span(b, y), byte %d", b)
		}
	}
}

// P1.1: each class has just its bytes.
func TestClassHasJustItsBytes(t *testing.T) {
	const (
		small  = "abcdefghijklmnopqrstuvwxyz"
		great  = "ABCDEFGHIJKLMNOPQRSTUVWXYZ"
		digits = "0123456789"
		signs  = "!\"#$%&'()*+,-./:;<=>?@[\\]^_`{|}~"
	)
	control := "\x7f"
	for i := range 0x20 {
		control += string(rune(i))
	}
	for name, want := range map[string]string{
		"lower":  small,
		"upper":  great,
		"alpha":  small + great,
		"digit":  digits,
		"alnum":  small + great + digits,
		"xdigit": digits + "ABCDEFabcdef",
		"blank":  " \t",
		"space":  " \t\n\v\f\r",
		"cntrl":  control,
		"print":  " " + small + great + digits + signs,
		"graph":  small + great + digits + signs,
		"punct":  signs,
	} {
		s, ok := Class(name)
		if !ok || s != Of([]byte(want)...) {
			t.Errorf("P1.1: Class(%s): %t, %v", name, ok, s.Spans())
		}
	}
	if s, _ := Class("punct"); s.Len() != 32 {
		t.Errorf("P1.1: punct has %d bytes", s.Len())
	}
}

// P1.1 and P8 (R3): of no class the empty set, and false.
func TestClassOfNoClass(t *testing.T) {
	for _, name := range []string{"", "word", "Lower", "UPPER", "lowe", "lowerr", " lower", "lower ", "lower\x00", "[:lower:]", ":lower:", "ascii", "\xff", strings.Repeat("alpha", 1000)} {
		if s, ok := Class(name); ok || s != (Set{}) {
			t.Errorf("P1.1: Class(%q): %v, %t", name, s, ok)
		}
	}
}

// P1.1: Has, Len and Least tell what the words of the set tell.
func TestHasLenLeast(t *testing.T) {
	for _, s := range samples() {
		n, least := 0, -1
		for b := range 256 {
			if s.Has(byte(b)) != has(s, b) {
				t.Fatalf("P1.1: %x.Has(%d)", s, b)
			}
			if has(s, b) {
				if n == 0 {
					least = b
				}
				n++
			}
		}
		if s.Len() != n {
			t.Errorf("P1.1: %x.Len(): %d, not %d", s, s.Len(), n)
		}
		if b, ok := s.Least(); ok != (n > 0) || ok && int(b) != least || !ok && b != 0 {
			t.Errorf("P1.1: %x.Least(): %d, %t", s, b, ok)
		}
	}
	for _, b := range edges {
		if got, ok := Of(b, 255).Least(); !ok || got != b {
			t.Errorf("P1.1: Least of %d and 255: %d, %t", b, got, ok)
		}
	}
	if (Set{}).Len() != 0 || full.Len() != 256 {
		t.Error("P1.1: Len of the empty and of the whole set")
	}
}

// P1.1: And, Or and Not go byte by byte.
func TestAndOrNot(t *testing.T) {
	l := samples()
	for i, s := range l {
		u := l[(i*7+3)%len(l)]
		before, other := s, u
		and, or, not := s.And(u), s.Or(u), s.Not()
		if s != before || u != other {
			t.Fatal("P8: And, Or or Not changed a set")
		}
		for b := range 256 {
			if has(and, b) != (has(s, b) && has(u, b)) || has(or, b) != (has(s, b) || has(u, b)) || has(not, b) == has(s, b) {
				t.Fatalf("P1.1: And, Or, Not of %x and %x at %d", s, u, b)
			}
		}
	}
	if (Set{}).Not() != full || full.Not() != (Set{}) {
		t.Error("P1.1: Not of the empty and of the whole set")
	}
}

// P1.1: Spans at the edges that the chapter names.
func TestSpansOfEdges(t *testing.T) {
	for _, c := range []struct {
		set  Set
		want [][2]byte
	}{
		{Set{}, nil},
		{full, [][2]byte{{0, 255}}},
		{Of(0), [][2]byte{{0, 0}}},
		{Of(255), [][2]byte{{255, 255}}},
		{Of(0, 255), [][2]byte{{0, 0}, {255, 255}}},
		{Of(63, 64), [][2]byte{{63, 64}}},
		{Of(127, 128), [][2]byte{{127, 128}}},
		{Of(63, 65), [][2]byte{{63, 63}, {65, 65}}},
		{Of(64).Not(), [][2]byte{{0, 63}, {65, 255}}},
		{Of(0, 255).Not(), [][2]byte{{1, 254}}},
		{Of('x', 'b', 'a', 'c'), [][2]byte{{'a', 'c'}, {'x', 'x'}}},
	} {
		if got := c.set.Spans(); !slices.Equal(got, c.want) {
			t.Errorf("P1.1: Spans of %x: %v, not %v", c.set, got, c.want)
		}
	}
	every := Set{0x5555555555555555, 0x5555555555555555, 0x5555555555555555, 0x5555555555555555}
	if got := every.Spans(); len(got) != 128 || got[127] != [2]byte{254, 254} {
		t.Errorf("P1.1: Spans of every other byte: %v", got)
	}
}

// P1.2: a set is the union of its spans; they rise, and none could be longer.
func TestSetIsTheUnionOfItsSpans(t *testing.T) {
	for _, s := range samples() {
		var union Set
		last := -2
		for _, span := range s.Spans() {
			if int(span[0]) <= last+1 || span[1] < span[0] {
				t.Fatalf("P1.1: Spans of %x: %v", s, s.Spans())
			}
			last = int(span[1])
			union = union.Or(Span(span[0], span[1]))
		}
		if union != s {
			t.Fatalf("P1.2: the union of the spans of %x is %x", s, union)
		}
	}
}

// P8 (R6, R8): each answer is new memory, and the same for the same set.
func TestSpansAreNewMemory(t *testing.T) {
	s := Of('a', 'c')
	first, second := s.Spans(), s.Spans()
	first[0] = [2]byte{9, 9}
	_ = append(first[:1], [2]byte{7, 7})
	if want := [][2]byte{{'a', 'a'}, {'c', 'c'}}; !slices.Equal(second, want) || !slices.Equal(s.Spans(), want) {
		t.Error("P8: answers of Spans share memory")
	}
}

// P1.1: a wide text has of each byte the sign of its number.
func TestWideOfEachByte(t *testing.T) {
	if Wide("") != "" || Wide("\xe9") != "é" || Wide("é") != "Ã©" || Wide("\n\x00") != "\n\x00" {
		t.Error("P1.1: Wide")
	}
	for _, b := range edges {
		if got := Wide(string([]byte{b})); got != string(rune(b)) {
			t.Errorf("P1.1: Wide of %d: %q", b, got)
		}
	}
	all := make([]byte, 256)
	for i := range all {
		all[i] = byte(i)
	}
	signs := []rune(Wide(string(all)))
	if len(signs) != 256 {
		t.Fatalf("P1.1: Wide of 256 bytes has %d signs", len(signs))
	}
	for i, sign := range signs {
		if int(sign) != i {
			t.Errorf("P1.1: Wide: sign %d is %U", i, sign)
		}
	}
}

// P1.1: Narrow of texts of signs from 0 to 255.
func TestNarrowOfSigns(t *testing.T) {
	for w, want := range map[string]string{
		"":           "",
		"a":          "a",
		"aéb":        "a\xe9b",
		"\u0000":     "\x00",
		"\u007f":     "\x7f",
		"\u0080":     "\x80",
		"\u00ff\n":   "\xff\n",
		"Ã©":         "\xc3\xa9",
		"?@\u00bf@?": "?@\xbf@?",
	} {
		if got, ok := Narrow(w); !ok || got != want {
			t.Errorf("P1.1: Narrow(%q): %q, %t", w, got, ok)
		}
	}
}

// P1.1 and P8 (R3): of a text that is no wide one nothing, and false.
func TestNarrowOfNoWideText(t *testing.T) {
	for _, w := range []string{
		"\u0100", "a\u0100", "\u0100a", "é€", "\ufffd", "\U0001f600", "\U0010ffff",
		"\x80", "\xe9", "\xff", "a\xc3", "\xc3a", "é\xe9",
		"\xc0\x80", "\xc1\xbf", "\xe0\x82\x80", "\xf0\x80\x82\x80", // longer than they need be
		"\xed\xa0\x80", "\xf4\x90\x80\x80", // signs that aren't any
	} {
		if got, ok := Narrow(w); ok || got != "" {
			t.Errorf("P1.1: Narrow(%q): %q, %t", w, got, ok)
		}
	}
}

// P1.2: Wide and Narrow undo each other.
func TestWideAndNarrowUndoEachOther(t *testing.T) {
	for a := range 256 {
		for b := range 256 {
			s := string([]byte{byte(a), byte(b), byte(a)})
			if got, ok := Narrow(Wide(s)); !ok || got != s {
				t.Fatalf("P1.2: Narrow(Wide(%q)): %q, %t", s, got, ok)
			}
			w := string([]rune{rune(a), rune(b)})
			s, ok := Narrow(w)
			if !ok || Wide(s) != w {
				t.Fatalf("P1.2: Wide(Narrow(%q)): %q, %t", w, Wide(s), ok)
			}
		}
	}
	// Of any bytes as a text of signs: if it is a wide text, it is that of what Narrow tells.
	for a := range 256 {
		for b := range 256 {
			w := string([]byte{byte(a), byte(b)})
			if s, ok := Narrow(w); ok && Wide(s) != w {
				t.Fatalf("P1.2: Wide(Narrow(%q)): %q", w, Wide(s))
			}
		}
	}
}
