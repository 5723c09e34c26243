package show

import (
	"fmt"
	"reflect"
	"runtime/debug"
	"slices"
	"strings"
	"testing"

	"placket/api"
	"placket/bracket"
	"placket/bre"
	"placket/ere"
	"placket/octet"
	"placket/tree"
)

// The calls are just those of the chapter (R11).
var (
	_ func(s octet.Set) string = Set
	_ func(n tree.Node) string = Ere
)

func of(bytes string) octet.Set                  { return octet.Of([]byte(bytes)...) }
func one(bytes string) tree.Node                 { return tree.One{Set: of(bytes)} }
func cat(parts ...tree.Node) tree.Node           { return tree.Cat{Parts: parts} }
func alt(parts ...tree.Node) tree.Node           { return tree.Alt{Parts: parts} }
func rep(n tree.Node, least, most int) tree.Node { return tree.Rep{Of: n, Min: least, Max: most} }
func group(number int, n tree.Node) tree.Node    { return tree.Group{Number: number, Of: n} }
func back(number int) tree.Node                  { return tree.Back{Number: number} }
func union(first, second byte, third ...byte) octet.Set {
	return octet.Span(first, second).Or(octet.Of(third...))
}

var (
	empty, start, end = tree.Node(tree.Empty{}), tree.Node(tree.Start{}), tree.Node(tree.End{})
	a, b, c           = one("a"), one("b"), one("c")
)

// marksOfPunct are all bytes of punct.
const marksOfPunct = "!\"#$%&'()*+,-./:;<=>?@[\\]^_`{|}~"

func punct(b byte) bool { return strings.IndexByte(marksOfPunct, b) >= 0 }

// setAgain is a second reading of what the chapter says of a set as a text.
func setAgain(s octet.Set) string {
	var own, others []byte
	for i := range 256 {
		if b := byte(i); s.Has(b) {
			own = append(own, b)
		} else {
			others = append(others, b)
		}
	}
	if len(others) == 0 {
		return "."
	}
	if len(own) == 1 {
		switch b := string(own); {
		case b == "\n":
			return `\n`
		case punct(own[0]):
			return `\` + b
		default:
			return b
		}
	}
	ofOwn, lineEndIn := bracketAgain(own)
	ofOthers, lineEndOut := bracketAgain(others)
	if len(own) > 128 || len(own) == 0 {
		if lineEndOut {
			return "[" + ofOwn + "]"
		}
		return "[^" + ofOthers + "]"
	}
	if lineEndIn {
		return "[^" + ofOthers + "]"
	}
	return "[" + ofOwn + "]"
}

// bracketAgain is what stands within a bracket of these bytes, which rise, and whether a span's least or greatest is the end of a line.
func bracketAgain(bytes []byte) (s string, lineEnd bool) {
	item := func(b byte) string {
		lineEnd = lineEnd || b == 0xa
		if punct(b) {
			return "[." + string([]byte{b}) + ".]"
		}
		return string([]byte{b})
	}
	for len(bytes) > 0 {
		n := 1
		for n < len(bytes) && bytes[n] == bytes[n-1]+1 {
			n++
		}
		s += item(bytes[0])
		if n > 1 {
			s += "-" + item(bytes[n-1])
		}
		bytes = bytes[n:]
	}
	return s, lineEnd
}

// wantSet holds Set of a set against a text, and the text against the parsers: it is that set, and no end of a line stands in it.
func wantSet(t *testing.T, s octet.Set, want string) {
	t.Helper()
	got := Set(s)
	if got != want {
		t.Errorf("P6.1: Set of %v: %q, not %q", s.Spans(), got, want)
	}
	if strings.Contains(got, "\n") {
		t.Errorf("P6.1: Set of %v: the end of a line stands in %q", s.Spans(), got)
	}
	if node, marks, _, e := ere.Parse(got); e != api.ErrLong && (e != api.OK || len(marks) != 0 || !tree.Holds(node, s)) {
		t.Errorf("P6.2: Set of %v: %q is read as %#v, %v, %d", s.Spans(), got, node, marks, e)
	}
	if strings.HasPrefix(got, "[") {
		if set, place, e := bracket.Parse(got, 1); set != s || place != len(got) || e != api.OK {
			t.Errorf("P6.2: Set of %v: %q is read as %v, %d, %d", s.Spans(), got, set.Spans(), place, e)
		}
	}
	if shown := Ere(tree.One{Set: s}); shown != got {
		t.Errorf("P6.1: Ere of a One of %v: %q, not %q", s.Spans(), shown, got)
	}
}

// P6.1: the chapter's example.
func TestExample(t *testing.T) {
	n, _, _, e := bre.Parse(`\(a\|b\)\{2\}`)
	if got := Ere(n); e != api.OK || got != "(a|b){2}" {
		t.Errorf("P6.1: Ere of the example: %q", got)
	}
}

// P6.1: all bytes, and none.
func TestAllAndNone(t *testing.T) {
	wantSet(t, octet.Set{}.Not(), ".")
	wantSet(t, octet.Set{}, "[^\x00-\xff]")
}

// P6.1: one byte: the end of a line as \n, a byte of punct behind a backslash, another byte as it is.
func TestEachByte(t *testing.T) {
	for i := range 256 {
		s := string([]byte{byte(i)})
		switch {
		case i == 0xa:
			wantSet(t, of(s), `\n`)
		case punct(byte(i)):
			wantSet(t, of(s), `\`+s)
		default:
			wantSet(t, of(s), s)
		}
	}
}

// P6.1: all bytes but one.
func TestAllButOneByte(t *testing.T) {
	for i := range 256 {
		s := string([]byte{byte(i)})
		switch {
		case i == 0xa:
			wantSet(t, of(s).Not(), "[\x00-\x09\x0b-\xff]")
		case punct(byte(i)):
			wantSet(t, of(s).Not(), "[^[."+s+".]]")
		default:
			wantSet(t, of(s).Not(), "[^"+s+"]")
		}
	}
}

// P6.1: a bracket has each span's least byte, and, if it has more than one, its greatest, those of punct between [. and .] .
func TestBrackets(t *testing.T) {
	wantSet(t, of("ab"), "[a-b]")
	wantSet(t, of("ac"), "[ac]")
	wantSet(t, of("abc"), "[a-c]")
	wantSet(t, of("cabx"), "[a-cx]")
	wantSet(t, of("0123456789_"), "[0-9[._.]]")
	wantSet(t, of("[]"), "[[.[.][.].]]")
	wantSet(t, of("^a"), "[[.^.]a]")
	wantSet(t, of("a-z"), "[[.-.]az]")
	wantSet(t, of("+,-"), "[[.+.]-[.-.]]")
	wantSet(t, of("-./"), "[[.-.]-[./.]]")
	wantSet(t, of(`\/`), `[[./.][.\.]]`)
	wantSet(t, of(".:="), "[[...][.:.][.=.]]")
	wantSet(t, of(" \t"), "[\t ]")
	wantSet(t, of("\x00\xff"), "[\x00\xff]")
	wantSet(t, of("é"), "[\xa9\xc3]")
	wantSet(t, octet.Span(' ', '/'), "[ -[./.]]")
	wantSet(t, octet.Span('/', '0'), "[[./.]-0]")
	wantSet(t, octet.Span('Z', 'a'), "[Z-a]")
	wantSet(t, of("xyz").Not(), "[^x-z]")
	wantSet(t, of("^]-").Not(), "[^[.-.][.].]-[.^.]]")
	all, _ := octet.Class("punct")
	wantSet(t, all, "[[.!.]-[./.][.:.]-[.@.][.[.]-[.`.][.{.]-[.~.]]")
	wantSet(t, all.Not(), "[^[.!.]-[./.][.:.]-[.@.][.[.]-[.`.][.{.]-[.~.]]")
}

// P6.1: a bracket is of the set's own bytes, if these are 1 to 128, else of the others.
func TestOwnBytesOrOthers(t *testing.T) {
	wantSet(t, octet.Span(0, 126), "[\x00-[.~.]]")
	wantSet(t, octet.Span(0, 127), "[\x00-\x7f]")
	wantSet(t, octet.Span(0, 128), "[^\x81-\xff]")
	wantSet(t, octet.Span(127, 255), "[^\x00-[.~.]]")
	wantSet(t, octet.Span(128, 255), "[\x80-\xff]")
	wantSet(t, octet.Span(129, 255), "[\x81-\xff]")
	var odd octet.Set
	for i := range 128 {
		odd = odd.Or(octet.Of(byte(2*i + 1)))
	}
	for _, more := range []string{"", "\n", "\n\x00"} {
		s := odd.Or(of(more))
		wantSet(t, s, setAgain(s))
		// With one byte more than 128 it is of the others.
		if got := Set(s); strings.HasPrefix(got, "[^") != (more != "") {
			t.Errorf("P6.1: Set of %d bytes: %q", s.Len(), got)
		}
	}
}

// P6.1: if the end of a line would be the least or greatest byte of a span, the bracket is of the other bytes of both.
func TestLineEnd(t *testing.T) {
	wantSet(t, of("\na"), "[^\x00-\t\v-[.`.]b-\xff]")
	wantSet(t, of("\t\n"), "[^\x00-\b\v-\xff]")
	wantSet(t, of("\n\v"), "[^\x00-\t\f-\xff]")
	wantSet(t, of("\t\n\v"), "[\t-\v]")
	wantSet(t, of("\t\v"), "[\t\v]")
	wantSet(t, octet.Span(0, 10), "[^\v-\xff]")
	wantSet(t, octet.Span(0, 11), "[\x00-\v]")
	wantSet(t, octet.Span(10, 20), "[^\x00-\t\x15-\xff]")
	wantSet(t, octet.Span(9, 20), "[\t-\x14]")
	wantSet(t, octet.Span(11, 255), "[\v-\xff]")
	wantSet(t, octet.Span(10, 255), "[^\x00-\t]")
	wantSet(t, octet.Span(9, 255), "[^\x00-\b]")
	wantSet(t, of("\n\xff").Not(), "[\x00-\t\v-\xfe]")
	wantSet(t, of("\t\n").Not(), "[\x00-\b\v-\xff]")
	wantSet(t, of("\n\v").Not(), "[\x00-\t\f-\xff]")
	wantSet(t, of("\t\n\v").Not(), "[^\t-\v]")
	wantSet(t, of("\t\v").Not(), "[^\t\v]")
	space, _ := octet.Class("space")
	wantSet(t, space, "[\t-\r ]")
	wantSet(t, space.Not(), "[^\t-\r ]")
}

// P6.1 and P6.2: of all spans, and of all bytes but those, the text is as a second reading has it.
func TestAllSpans(t *testing.T) {
	for from := range 256 {
		for to := from; to < 256; to++ {
			s := octet.Span(byte(from), byte(to))
			wantSet(t, s, setAgain(s))
			wantSet(t, s.Not(), setAgain(s.Not()))
		}
		if t.Failed() {
			return
		}
	}
}

// numbers tells numbers by a short rule of remainders.
type numbers struct{ x uint32 }

func (r *numbers) next(n int) int {
	r.x ^= r.x << 13
	r.x ^= r.x >> 17
	r.x ^= r.x << 5
	return int(r.x % uint32(n))
}

// set is a set of some bytes and spans, or of all others.
func (r *numbers) set() octet.Set {
	var s octet.Set
	for range 1 + r.next(6) {
		b := byte(r.next(256))
		switch r.next(4) {
		case 0:
			s = s.Or(octet.Span(b, byte(r.next(256))))
		case 1:
			s = s.Or(octet.Of(byte(7 + r.next(7))))
		case 2:
			s = s.Or(octet.Of(marksOfPunct[r.next(len(marksOfPunct))]))
		default:
			s = s.Or(octet.Of(b))
		}
	}
	if r.next(4) == 0 {
		return s.Not()
	}
	return s
}

// P6.1 and P6.2: the same of many sets.
func TestManySets(t *testing.T) {
	r := &numbers{2463534242}
	for range 8000 {
		s := r.set()
		wantSet(t, s, setAgain(s))
		var words octet.Set
		for i := range words {
			words[i] = uint64(r.next(1<<31))<<33 ^ uint64(r.next(1<<31))<<16 ^ uint64(r.next(1<<31))
		}
		wantSet(t, words, setAgain(words))
		if t.Failed() {
			return
		}
	}
}

// P6.1 and P6.2: the same of sets that grow byte by byte, to all 256, in some orders.
func TestSetsOfEachSize(t *testing.T) {
	// Steps that are odd come to each byte once.
	for _, step := range []int{1, 3, 5, 85, 127, 171, 253, 255} {
		var s octet.Set
		for i := range 256 {
			wantSet(t, s, setAgain(s))
			s = s.Or(octet.Of(byte(i * step)))
		}
		if t.Failed() {
			return
		}
	}
}

// wantEre holds Ere of a right tree against a text, and what ere reads in that against the tree.
func wantEre(t *testing.T, n tree.Node, want string) {
	t.Helper()
	if !tree.Right(n) {
		t.Fatalf("%#v isn't right", n)
	}
	if got := Ere(n); got != want {
		t.Errorf("P6.1: Ere of %#v: %q, not %q", n, got, want)
	}
	wantReadAgain(t, n, want)
}

// wantReadAgain holds a tree against what ere reads in its text, if that isn't too long.
func wantReadAgain(t *testing.T, n tree.Node, text string) {
	t.Helper()
	read, marks, place, e := ere.Parse(text)
	if len(text) > api.MaxRegex && e == api.ErrLong {
		return
	}
	if e != api.OK || !tree.Same(n, read) {
		t.Errorf("P6.2: %#v as %q is read as %#v, error %d at %d", n, text, read, e, place)
	}
	for _, m := range marks {
		if len(m.Word) != 2 || m.Word[1] < '1' || m.Word[1] > '9' {
			t.Errorf("P6.1: %q has the mark %v", text, m)
		}
	}
}

// P6.1: each kind of node.
func TestNodes(t *testing.T) {
	wantEre(t, nil, "")
	wantEre(t, empty, "")
	wantEre(t, a, "a")
	wantEre(t, start, "^")
	wantEre(t, end, "$")
	wantEre(t, cat(a, b), "ab")
	wantEre(t, cat(a, b, c, a), "abca")
	wantEre(t, cat(start, a, end), "^a$")
	wantEre(t, cat(a, start, b, end, c, end, start), "a^b$c$^")
	wantEre(t, alt(a, b), "a|b")
	wantEre(t, alt(a, b, c), "a|b|c")
	wantEre(t, alt(cat(a, b), c, start), "ab|c|^")
	wantEre(t, alt(a, cat(b, c)), "a|bc")
	wantEre(t, group(1, a), "(a)")
	wantEre(t, group(1, cat(a, b)), "(ab)")
	wantEre(t, group(1, group(2, cat(a, group(3, b)))), "((a(b)))")
	wantEre(t, cat(group(1, a), back(1)), `(a)\1`)
	wantEre(t, cat(group(1, a), back(1), one("2")), `(a)\12`)
	wantEre(t, rep(a, 0, -1), "a*")
	wantEre(t, cat(one("^"), one("$"), one("."), one("*"), one("{"), one("1"), one("}")), `\^\$\.\*\{1\}`)
	wantEre(t, cat(tree.One{}, tree.One{Set: octet.Set{}.Not()}, one("\n"), one(`\`), one("n")), "[^\x00-\xff].\\n\\\\n")
}

// P6.1: Empty, and a node that isn't told, are nothing, wherever a right tree may have them.
func TestEmptyParts(t *testing.T) {
	for _, none := range []tree.Node{nil, empty} {
		wantEre(t, group(1, none), "()")
		wantEre(t, alt(none, none), "|")
		wantEre(t, alt(none, a, none), "|a|")
		wantEre(t, alt(a, none, b), "a||b")
		wantEre(t, cat(group(1, alt(none, none)), rep(group(2, none), 0, -1)), "(|)()*")
	}
}

// P6.1: all bounds that a Rep may have: the first form that holds.
func TestRepetitions(t *testing.T) {
	for least := range api.MaxBound + 1 {
		for most := -1; most <= api.MaxBound; most++ {
			if most >= 0 && most < least {
				continue
			}
			var want string
			switch {
			case most < 0 && least < 2:
				want = "*+"[least : least+1]
			case least == 0 && most == 1:
				want = "?"
			case least == most:
				want = fmt.Sprintf("{%d}", least)
			case most < 0:
				want = fmt.Sprintf("{%d,}", least)
			default:
				want = fmt.Sprintf("{%d,%d}", least, most)
			}
			wantEre(t, rep(a, least, most), "a"+want)
		}
	}
	wantEre(t, rep(a, 0, 0), "a{0}")
	wantEre(t, rep(a, 1, 1), "a{1}")
	wantEre(t, rep(a, 0, 2), "a{0,2}")
	wantEre(t, rep(a, 1, 2), "a{1,2}")
	wantEre(t, rep(a, 2, -1), "a{2,}")
	wantEre(t, rep(a, 255, 255), "a{255}")
}

// P6.1: what a Rep may be of: its text stands ahead of the repetition's.
func TestRepetitionsOfEachKind(t *testing.T) {
	wantEre(t, rep(rep(rep(rep(a, 0, -1), 1, -1), 0, 1), 2, 3), "a*+?{2,3}")
	wantEre(t, rep(group(1, alt(a, b)), 2, 2), "(a|b){2}")
	wantEre(t, rep(group(1, empty), 0, -1), "()*")
	wantEre(t, rep(group(1, cat(start, end)), 3, -1), "(^$){3,}")
	wantEre(t, cat(group(1, a), rep(back(1), 1, -1)), `(a)\1+`)
	wantEre(t, cat(a, rep(b, 0, -1), c), "ab*c")
	wantEre(t, rep(one("*"), 0, -1), `\**`)
	wantEre(t, rep(one("ab"), 0, 1), "[a-b]?")
	wantEre(t, rep(one("\n"), 4, 4), `\n{4}`)
	wantEre(t, rep(tree.One{Set: octet.Set{}.Not()}, 0, -1), ".*")
	wantEre(t, cat(start, rep(a, 0, -1), end), "^a*$")
	wantEre(t, rep(one("\xc3"), 1, -1), "\xc3+")
}

// P6.1: a Back's number has as many digits as it needs, also where no text could have named it.
func TestGreatBacks(t *testing.T) {
	var parts []tree.Node
	for i := range 120 {
		parts = append(parts, group(i+1, a))
	}
	groups := strings.Repeat("(a)", len(parts))
	for _, number := range []int{1, 9, 10, 99, 100, 120} {
		n := cat(append(slices.Clone(parts), rep(back(number), 0, -1))...)
		if got, want := Ere(n), fmt.Sprintf(`%s\%d*`, groups, number); got != want {
			t.Errorf("P6.1: Ere of a Back of %d: %q", number, got)
		}
	}
}

// stranger is a node that chapter 3 doesn't list.
type stranger struct{ tree.Node }

// P6.1: of a tree that isn't right the text is empty, wherever in it something is wrong.
func TestTreesThatAreNotRight(t *testing.T) {
	wrong := []tree.Node{
		tree.Cat{}, cat(a), cat(a, nil), cat(empty, a), cat(a, cat(b, c)), cat(alt(a, b), c),
		tree.Alt{}, alt(a), alt(a, alt(b, c)),
		rep(nil, 0, -1), rep(empty, 0, -1), rep(start, 0, -1), rep(end, 0, 1), rep(cat(a, b), 0, -1), rep(alt(a, b), 1, -1),
		rep(a, -1, -1), rep(a, 0, -2), rep(a, 2, 1), rep(a, 0, 256), rep(a, 256, -1), rep(a, 256, 256), tree.Rep{},
		group(0, a), group(2, a), group(-1, a), tree.Group{}, group(1, group(1, a)), cat(group(2, a), group(1, b)),
		back(1), back(0), tree.Back{}, cat(back(1), group(1, a)), group(1, back(1)), cat(group(1, a), back(2)), cat(group(1, a), back(-1)),
		&tree.One{Set: of("a")}, &tree.Empty{}, stranger{a}, stranger{}, (*tree.One)(nil),
	}
	for _, n := range wrong {
		for _, whole := range []tree.Node{n, alt(c, n), cat(c, n), cat(n, c), group(1, n), rep(n, 1, 2), group(1, rep(group(2, alt(c, cat(c, n))), 0, 1))} {
			if tree.Right(whole) {
				// Wrong by its place or number alone, it may be right elsewhere.
				continue
			}
			if got := Ere(whole); got != "" {
				t.Errorf("P6.1: Ere of what isn't right, %#v: %q", whole, got)
			}
		}
		if tree.Right(n) {
			t.Errorf("%#v is right", n)
		}
	}
}

// ereAgain is a second reading of what the chapter says of a right tree, by calls within calls.
func ereAgain(n tree.Node) string {
	var parts []string
	each := func(nodes ...tree.Node) []string {
		for _, n := range nodes {
			parts = append(parts, ereAgain(n))
		}
		return parts
	}
	switch n := n.(type) {
	case tree.One:
		return setAgain(n.Set)
	case tree.Cat:
		return strings.Join(each(n.Parts...), "")
	case tree.Alt:
		return strings.Join(each(n.Parts...), "|")
	case tree.Group:
		return "(" + ereAgain(n.Of) + ")"
	case tree.Back:
		return fmt.Sprintf(`\%d`, n.Number)
	case tree.Start:
		return "^"
	case tree.End:
		return "$"
	case tree.Rep:
		words := map[[2]int]string{{0, -1}: "*", {1, -1}: "+", {0, 1}: "?", {n.Min, n.Min}: fmt.Sprintf("{%d}", n.Min)}
		word, ok := words[[2]int{n.Min, n.Max}]
		if !ok {
			word = strings.TrimSuffix(fmt.Sprintf("{%d,%d", n.Min, n.Max), "-1") + "}"
		}
		return ereAgain(n.Of) + word
	}
	return ""
}

// maker makes right trees.
type maker struct {
	numbers
	groups int
	closed []int
}

func (m *maker) regex(depth int) tree.Node {
	branches := []tree.Node{m.branch(depth)}
	for m.next(4) == 0 {
		branches = append(branches, m.branch(depth))
	}
	if len(branches) == 1 {
		return branches[0]
	}
	return alt(branches...)
}

func (m *maker) branch(depth int) tree.Node {
	var pieces []tree.Node
	for range m.next(5) {
		switch m.next(10) {
		case 0:
			pieces = append(pieces, start)
		case 1:
			pieces = append(pieces, end)
		default:
			pieces = append(pieces, m.piece(depth))
		}
	}
	switch {
	case len(pieces) == 1:
		return pieces[0]
	case len(pieces) > 1:
		return cat(pieces...)
	case m.next(2) == 0:
		return nil
	}
	return empty
}

func (m *maker) piece(depth int) tree.Node {
	n := m.atom(depth)
	for m.next(3) == 0 {
		least := m.next(256)
		switch most := least + m.next(256-least); m.next(4) {
		case 0:
			n = rep(n, m.next(3), -1)
		case 1:
			n = rep(n, m.next(2), 1)
		case 2:
			n = rep(n, least, -1)
		default:
			n = rep(n, least, most)
		}
	}
	return n
}

func (m *maker) atom(depth int) tree.Node {
	switch k := m.next(8); {
	case k < 2 && depth > 0:
		m.groups++
		number := m.groups
		of := m.regex(depth - 1)
		m.closed = append(m.closed, number)
		return group(number, of)
	case k == 2 && len(m.closed) > 0:
		if number := m.closed[m.next(len(m.closed))]; number <= 9 {
			return back(number)
		}
	case k == 3:
		return tree.One{Set: m.set()}
	}
	return tree.One{Set: octet.Of(byte(m.next(256)))}
}

// P6.1, P6.2 and P7: of made trees the text is as a second reading has it, and is read as the same tree.
func TestMadeTrees(t *testing.T) {
	r := numbers{88172645}
	for range 30000 {
		m := &maker{numbers: numbers{uint32(1 + r.next(1<<31))}}
		n := m.regex(api.MaxNest)
		wantEre(t, n, ereAgain(n))
		if t.Failed() {
			return
		}
	}
}

// wantParsedAgain shows the tree of a text, if it is a regex, and holds what is read of that against it; it tells whether it is one.
func wantParsedAgain(t *testing.T, parse func(string) (tree.Node, []api.Mark, int, api.Errno), s string) bool {
	t.Helper()
	n, _, _, e := parse(s)
	if e != api.OK {
		return false
	}
	shown := Ere(n)
	if again := ereAgain(n); shown != again {
		t.Fatalf("P6.1: Ere of %q: %q, not %q", s, shown, again)
	}
	wantReadAgain(t, n, shown)
	if t.Failed() {
		t.Fatalf("of %q", s)
	}
	return true
}

// wantAllParsedAgain does so with all texts of up to so many parts.
func wantAllParsedAgain(t *testing.T, parse func(string) (tree.Node, []api.Mark, int, api.Errno), parts []string, most int) {
	t.Helper()
	right := 0
	texts := []string{""}
	for range most {
		var longer []string
		for _, s := range texts {
			for _, part := range parts {
				longer = append(longer, s+part)
			}
		}
		for _, s := range longer {
			if wantParsedAgain(t, parse, s) {
				right++
			}
		}
		texts = longer
	}
	if right == 0 {
		t.Error("no text was a regex")
	}
}

// P6.2: of all short texts that either parser reads, what is shown is read by ere as the same tree.
func TestAllShortTexts(t *testing.T) {
	wantAllParsedAgain(t, bre.Parse, strings.Split(`a\(){}1*^$|+?.[]-`, ""), 4)
	wantAllParsedAgain(t, ere.Parse, strings.Split(`a\(){}1*^$|+?.[]-`, ""), 4)
	wantAllParsedAgain(t, bre.Parse, []string{"a", "*", "^", "$", `\(`, `\)`, `\|`, `\{2\}`, `\1`, `\+`, "{"}, 5)
	wantAllParsedAgain(t, ere.Parse, []string{"a", "*", "^", "$", "(", ")", "|", "{2}", `\1`, "+", `\{`}, 5)
	for i := range 256 {
		for _, ahead := range []string{"", `\`, "[", "[^", "[]-", "[a-"} {
			for _, behind := range []string{"", "*", "]", "\n]", "]*"} {
				s := ahead + string([]byte{byte(i)}) + behind
				wantParsedAgain(t, bre.Parse, s)
				wantParsedAgain(t, ere.Parse, s)
			}
		}
	}
}

// P6.2: the same of longer texts that are put together of parts.
func TestTextsOfParts(t *testing.T) {
	both := []string{"a", "b", "é", ".", "*", "^", "$", `\n`, `\t`, `\w`, `\W`, `\s`, `\S`, `\.`, `\\`, `\/`, `\1`, `\2`, "[a-c]", "[^]x]", "[[:digit:]]", "[[:punct:]-]", "[^\n]", "[\t\n]", "]", "\n", "\x00", "\xff", ",", "0"}
	basic := append([]string{`\(`, `\)`, `\(`, `\)`, `\(`, `\)`, `\|`, `\|`, `\+`, `\?`, `\{2\}`, `\{3,\}`, `\{0,255\}`, "(", ")", "{", "|", "+", "?"}, both...)
	extended := append([]string{"(", ")", "(", ")", "(", ")", "|", "|", "+", "?", "{2}", "{3,}", "{0,255}", `\(`, `\)`, `\{`, `\|`, `\+`, `\?`}, both...)
	r := &numbers{2463534242}
	right := [2]int{}
	for range 60000 {
		var texts [2]strings.Builder
		for range r.next(14) {
			texts[0].WriteString(basic[r.next(len(basic))])
			texts[1].WriteString(extended[r.next(len(extended))])
		}
		if wantParsedAgain(t, bre.Parse, texts[0].String()) {
			right[0]++
		}
		if wantParsedAgain(t, ere.Parse, texts[1].String()) {
			right[1]++
		}
	}
	if right[0] < 2000 || right[1] < 2000 {
		t.Errorf("only %v texts were regexes", right)
	}
}

// P6.2: a text may be too long, of a regex that isn't: of others so long it is read again.
func TestLongTexts(t *testing.T) {
	for _, s := range []string{strings.Repeat("_", api.MaxRegex), strings.Repeat("_", api.MaxRegex/2), strings.Repeat("a", api.MaxRegex), strings.Repeat("(x)", api.MaxRegex/3), `\(` + strings.Repeat(`a\|`, 80) + `\)*`} {
		if !wantParsedAgain(t, bre.Parse, s) {
			t.Errorf("%q is no regex", s)
		}
	}
	long, _, _, _ := bre.Parse(strings.Repeat("_", api.MaxRegex))
	if got := Ere(long); got != strings.Repeat(`\_`, api.MaxRegex) {
		t.Errorf("P6.1: Ere of a long tree: %q", got)
	}
}

// P7: the call ends, and doesn't panic, of very deep and very wide trees too.
func TestDeepAndWideTrees(t *testing.T) {
	// With so small a stack calls within calls, one a node, would not come to their end.
	defer debug.SetMaxStack(debug.SetMaxStack(16 << 20))
	const depth = 400_000
	repeated := a
	for range depth {
		repeated = rep(repeated, 1, -1)
	}
	if got := Ere(repeated); got != "a"+strings.Repeat("+", depth) {
		t.Errorf("P7: Ere of %d Reps in one another: %d bytes", depth, len(got))
	}
	grouped := alt(a, cat(b, c))
	for i := range depth {
		grouped = group(depth-i, grouped)
	}
	if got := Ere(grouped); got != strings.Repeat("(", depth)+"a|bc"+strings.Repeat(")", depth) {
		t.Errorf("P7: Ere of %d groups in one another: %d bytes", depth, len(got))
	}
	if got := Ere(tree.Alt{Parts: make([]tree.Node, depth)}); got != strings.Repeat("|", depth-1) {
		t.Errorf("P7: Ere of %d branches: %d bytes", depth, len(got))
	}
	if got := Ere(tree.Cat{Parts: slices.Repeat([]tree.Node{start, a}, depth)}); got != strings.Repeat("^a", depth) {
		t.Errorf("P7: Ere of %d pieces: %d bytes", 2*depth, len(got))
	}
	round := []tree.Node{a, nil}
	round[1] = group(1, tree.Cat{Parts: round})
	if got := Ere(tree.Cat{Parts: round}); got != "" {
		t.Errorf("P7: Ere of a tree that is within itself: %d bytes", len(got))
	}
}

// P8 (R6 and R8): what is handed in stays as it was, spare room included, and what was asked before doesn't matter.
func TestSameAnswersAgain(t *testing.T) {
	room := []tree.Node{a, rep(one("*"), 2, 3), group(1, alt(nil, b)), back(1), end, c}
	before := slices.Clone(room)
	trees := []tree.Node{tree.Cat{Parts: room[:4]}, tree.Alt{Parts: room[:3]}, cat(a), nil, group(1, tree.Alt{Parts: room[:2]})}
	want := []string{`a\*{2,3}(|b)\1`, `a|\*{2,3}|(|b)`, "", "", `(a|\*{2,3})`}
	for range 3 {
		for i, n := range trees {
			if got := Ere(n); got != want[i] {
				t.Errorf("P8 (R8): Ere of %#v: %q", n, got)
			}
			if !reflect.DeepEqual(room, before) {
				t.Fatalf("P8 (R6): Ere of %#v changed it", n)
			}
		}
		if got := Set(of("a\n")); got != "[^\x00-\t\v-[.`.]b-\xff]" {
			t.Errorf("P8 (R8): Set: %q", got)
		}
	}
}
