package code

import (
	"fmt"
	"math"
	"reflect"
	"runtime/debug"
	"slices"
	"strings"
	"testing"

	"placket/api"
	"placket/bre"
	"placket/ere"
	"placket/octet"
	"placket/tree"
)

// The calls and types are just those of the chapter (R11).
var (
	_ func(n tree.Node) (Program, api.Errno) = Compile
	_ func(p Program) Program                = Program.Copy
	_                                        = Inst{Byte, octet.Set{}, 0, 0}
	_                                        = Program{[]Inst{}, 0, 0, false}
	_                                        = [...]int{int(Byte): 0, int(Split): 1, int(Jump): 2, int(Save): 3, int(Back): 4, int(Begin): 5, int(End): 6, int(Enter): 7, int(Round): 8, int(Match): 9}
)

func one(bytes string) tree.Node                 { return tree.One{Set: octet.Of([]byte(bytes)...)} }
func cat(parts ...tree.Node) tree.Node           { return tree.Cat{Parts: parts} }
func alt(parts ...tree.Node) tree.Node           { return tree.Alt{Parts: parts} }
func rep(n tree.Node, least, most int) tree.Node { return tree.Rep{Of: n, Min: least, Max: most} }
func group(number int, n tree.Node) tree.Node    { return tree.Group{Number: number, Of: n} }
func back(number int) tree.Node                  { return tree.Back{Number: number} }
func ones(n int) []tree.Node                     { return slices.Repeat([]tree.Node{a}, n) }

var (
	empty, start, end = tree.Node(tree.Empty{}), tree.Node(tree.Start{}), tree.Node(tree.End{})
	a, b, c           = one("a"), one("b"), one("c")
)

// told is instructions as a text, a word each; what an op doesn't use is told too, if it isn't 0 or empty.
func told(insts []Inst) string {
	names := [...]string{"byte", "split", "jump", "save", "back", "begin", "end", "enter", "round", "match"}
	var words []string
	for _, inst := range insts {
		word := names[inst.Op]
		switch inst.Op {
		case Byte:
			for _, span := range inst.Set.Spans() {
				word += fmt.Sprintf(",%c-%c", span[0], span[1])
			}
			inst.Set = octet.Set{}
		case Split:
			word += fmt.Sprintf("%d,%d", inst.X, inst.Y)
			inst.X, inst.Y = 0, 0
		case Jump, Save, Back, Enter, Round:
			word += fmt.Sprint(inst.X)
			inst.X = 0
		}
		if inst != (Inst{Op: inst.Op}) {
			word += fmt.Sprintf("(and %v)", inst)
		}
		words = append(words, word)
	}
	return strings.Join(words, " ")
}

// same tells whether two programs are the same.
func same(p, q Program) bool {
	return slices.Equal(p.Insts, q.Insts) && p.Groups == q.Groups && p.Loops == q.Loops && p.Backs == q.Backs
}

// wantProgram holds the program of a tree against its instructions, between Save 0 and Save 1, and against how many loops they have.
func wantProgram(t *testing.T, n tree.Node, want string, loops int) {
	t.Helper()
	p, e := Compile(n)
	want = strings.ReplaceAll("save0 "+want+" save1 match", "  ", " ")
	if got := told(p.Insts); e != api.OK || got != want {
		t.Errorf("P7.1: Compile of %#v: %s, error %d, not %s", n, got, e, want)
	}
	if p.Loops != loops || p.Groups != tree.Groups(n) || p.Backs != tree.Backs(n) {
		t.Errorf("P7.1: Compile of %#v: %d groups, %d loops, Backs %t", n, p.Groups, p.Loops, p.Backs)
	}
}

// wantError holds Compile of a tree against an error, beside which there is nothing.
func wantError(t *testing.T, n tree.Node, want api.Errno) {
	t.Helper()
	if p, e := Compile(n); e != want || !same(p, Program{}) {
		t.Errorf("P7.1: Compile of %.200s: %d instructions, error %d, not %d", fmt.Sprintf("%#v", n), len(p.Insts), e, want)
	}
}

// P7.1: ops are numbered in the chapter's order.
func TestOps(t *testing.T) {
	for number, op := range []Op{Byte, Split, Jump, Save, Back, Begin, End, Enter, Round, Match} {
		if int(op) != number {
			t.Errorf("P7.1: op %d is %d", number, op)
		}
	}
}

// P7.1: the chapter's example.
func TestExample(t *testing.T) {
	n, _, _, _ := bre.Parse("a")
	p, e := Compile(n)
	want := Program{Insts: []Inst{{Op: Save}, {Op: Byte, Set: octet.Of('a')}, {Op: Save, X: 1}, {Op: Match}}}
	if e != api.OK || !same(p, want) {
		t.Errorf("P7.1: Compile of a: %v, %d", p, e)
	}
}

// P7.1: the nodes that have no parts.
func TestSingleNodes(t *testing.T) {
	wantProgram(t, nil, "", 0)
	wantProgram(t, empty, "", 0)
	wantProgram(t, a, "byte,a-a", 0)
	wantProgram(t, one("xyzabc"), "byte,a-c,x-z", 0)
	wantProgram(t, tree.One{}, "byte", 0)
	wantProgram(t, start, "begin", 0)
	wantProgram(t, end, "end", 0)
	wantProgram(t, cat(group(1, a), back(1)), "save2 byte,a-a save3 back1", 0)
	for i := range 256 {
		for _, set := range []octet.Set{octet.Of(byte(i)), octet.Span(0, byte(i)), octet.Of(byte(i)).Not()} {
			p, _ := Compile(tree.One{Set: set})
			if len(p.Insts) != 4 || p.Insts[1] != (Inst{Op: Byte, Set: set}) {
				t.Errorf("P7.1: Compile of a One of %v: %v", set.Spans(), p)
			}
		}
	}
}

// P7.1: a Cat's parts in order; of an Alt's all but the last between a Split and a Jump.
func TestPartsInOrder(t *testing.T) {
	wantProgram(t, cat(a, b), "byte,a-a byte,b-b", 0)
	wantProgram(t, cat(start, a, b, c, end), "begin byte,a-a byte,b-b byte,c-c end", 0)
	wantProgram(t, alt(a, b), "split2,4 byte,a-a jump5 byte,b-b", 0)
	wantProgram(t, alt(a, b, c), "split2,4 byte,a-a jump8 split5,7 byte,b-b jump8 byte,c-c", 0)
	wantProgram(t, alt(cat(a, b), c, start, end), "split2,5 byte,a-a byte,b-b jump12 split6,8 byte,c-c jump12 split9,11 begin jump12 end", 0)
	wantProgram(t, cat(a, group(1, alt(b, c)), a), "byte,a-a save2 split4,6 byte,b-b jump7 byte,c-c save3 byte,a-a", 0)
	wantProgram(t, alt(group(1, alt(a, b)), c), "split2,9 save2 split4,6 byte,a-a jump7 byte,b-b save3 jump10 byte,c-c", 0)
}

// P7.1: of Empty, and of a node that isn't told, nothing is laid, wherever a right tree may have them.
func TestEmptyParts(t *testing.T) {
	for _, none := range []tree.Node{nil, empty} {
		wantProgram(t, alt(none, none), "split2,3 jump3", 0)
		wantProgram(t, alt(none, a), "split2,3 jump4 byte,a-a", 0)
		wantProgram(t, alt(a, none), "split2,4 byte,a-a jump4", 0)
		wantProgram(t, alt(none, a, none), "split2,3 jump6 split4,6 byte,a-a jump6", 0)
		wantProgram(t, group(1, none), "save2 save3", 0)
		wantProgram(t, rep(group(1, none), 0, -1), "split2,7 enter0 save2 save3 round0 jump1", 1)
	}
}

// P7.1: a group's slots are 2n and 2n + 1; of each group there are as many as the tree has.
func TestGroups(t *testing.T) {
	wantProgram(t, group(1, a), "save2 byte,a-a save3", 0)
	wantProgram(t, group(1, group(2, cat(group(3, a), group(4, b)))), "save2 save4 save6 byte,a-a save7 save8 byte,b-b save9 save5 save3", 0)
	wantProgram(t, rep(group(1, a), 2, 2), "save2 byte,a-a save3 save2 byte,a-a save3", 0)
	wantProgram(t, cat(group(1, group(2, a)), back(2), back(1)), "save2 save4 byte,a-a save5 save3 back2 back1", 0)
	var parts []tree.Node
	var words []string
	for i := 1; i <= 120; i++ {
		parts = append(parts, group(i, a), back(i))
		words = append(words, fmt.Sprintf("save%d byte,a-a save%d back%d", 2*i, 2*i+1, i))
	}
	wantProgram(t, cat(parts...), strings.Join(words, " "), 0)
}

// P7.1: a Rep without an end.
func TestEndless(t *testing.T) {
	wantProgram(t, rep(a, 0, -1), "split2,6 enter0 byte,a-a round0 jump1", 1)
	wantProgram(t, rep(a, 1, -1), "byte,a-a split3,7 enter0 byte,a-a round0 jump2", 1)
	wantProgram(t, rep(a, 2, -1), "byte,a-a byte,a-a split4,8 enter0 byte,a-a round0 jump3", 1)
	wantProgram(t, cat(b, rep(a, 0, -1), c), "byte,b-b split3,7 enter0 byte,a-a round0 jump2 byte,c-c", 1)
	wantProgram(t, cat(rep(a, 0, -1), rep(b, 0, -1)), "split2,6 enter0 byte,a-a round0 jump1 split7,11 enter1 byte,b-b round1 jump6", 2)
	wantProgram(t, rep(group(1, alt(a, b)), 0, -1), "split2,11 enter0 save2 split5,7 byte,a-a jump8 byte,b-b save3 round0 jump1", 1)
	wantProgram(t, cat(group(1, a), rep(back(1), 1, -1)), "save2 byte,a-a save3 back1 split6,10 enter0 back1 round0 jump5", 1)
}

// P7.1: a Rep with an end: what may be left out leads behind the whole Rep.
func TestWithEnd(t *testing.T) {
	wantProgram(t, rep(a, 0, 0), "", 0)
	wantProgram(t, rep(a, 1, 1), "byte,a-a", 0)
	wantProgram(t, rep(a, 3, 3), "byte,a-a byte,a-a byte,a-a", 0)
	wantProgram(t, rep(a, 0, 1), "split2,5 enter0 byte,a-a round0", 1)
	wantProgram(t, rep(a, 0, 2), "split2,9 enter0 byte,a-a round0 split6,9 enter1 byte,a-a round1", 2)
	wantProgram(t, rep(a, 1, 2), "byte,a-a split3,6 enter0 byte,a-a round0", 1)
	wantProgram(t, rep(a, 2, 4), "byte,a-a byte,a-a split4,11 enter0 byte,a-a round0 split8,11 enter1 byte,a-a round1", 2)
	wantProgram(t, cat(rep(a, 0, 1), b), "split2,5 enter0 byte,a-a round0 byte,b-b", 1)
	wantProgram(t, rep(group(1, alt(a, nil)), 0, 2), "split2,17 enter0 save2 split5,7 byte,a-a jump7 save3 round0 split10,17 enter1 save2 split13,15 byte,a-a jump15 save3 round1", 2)
}

// P7.1: loops are numbered as their Enter is laid, also where a part with loops is laid more often.
func TestLoops(t *testing.T) {
	starA := "split%d,%d enter%d byte,a-a round%[3]d jump%[1]d"
	star := func(at, loop int) string {
		return strings.Replace(fmt.Sprintf(starA, at, at+5, loop), fmt.Sprintf("split%d,", at), fmt.Sprintf("split%d,", at+1), 1)
	}
	wantProgram(t, rep(a, 0, -1), star(1, 0), 1)
	wantProgram(t, rep(rep(a, 0, -1), 2, 2), star(1, 0)+" "+star(6, 1), 2)
	wantProgram(t, rep(rep(a, 0, -1), 0, -1), "split2,10 enter0 "+star(3, 1)+" round0 jump1", 2)
	wantProgram(t, rep(rep(a, 0, -1), 1, -1), star(1, 0)+" split7,15 enter1 "+star(8, 2)+" round1 jump6", 3)
	wantProgram(t, rep(rep(a, 0, -1), 0, 2), "split2,17 enter0 "+star(3, 1)+" round0 split10,17 enter2 "+star(11, 3)+" round2", 4)
	wantProgram(t, rep(rep(a, 0, -1), 2, 3), star(1, 0)+" "+star(6, 1)+" split12,19 enter2 "+star(13, 3)+" round2", 4)
	wantProgram(t, cat(rep(rep(a, 0, -1), 2, 2), rep(a, 0, -1)), star(1, 0)+" "+star(6, 1)+" "+star(11, 2), 3)
}

// P7.1: what isn't laid has no loops; but groups and Backs are those of the tree.
func TestLaidNever(t *testing.T) {
	wantProgram(t, rep(group(1, rep(a, 0, -1)), 0, 0), "", 0)
	wantProgram(t, cat(group(1, a), rep(back(1), 0, 0)), "save2 byte,a-a save3", 0)
	wantProgram(t, cat(rep(group(1, rep(a, 0, 1)), 0, 0), group(2, rep(b, 0, -1)), back(1)), "save4 split3,7 enter0 byte,b-b round0 jump2 save5 back1", 1)
	wantProgram(t, rep(rep(a, 0, 0), 255, 255), "", 0)
	wantProgram(t, rep(rep(a, 0, 0), 0, -1), "split2,5 enter0 round0 jump1", 1)
	wantProgram(t, rep(rep(a, 0, 0), 2, -1), "split2,5 enter0 round0 jump1", 1)
	wantProgram(t, rep(rep(a, 0, 0), 1, 3), "split2,7 enter0 round0 split5,7 enter1 round1", 2)
	wantProgram(t, alt(rep(a, 0, 0), rep(b, 0, 0)), "split2,3 jump3", 0)
}

// again is a second reading of what the chapter says of a node's instructions, laid from a number on, by calls within calls.
func again(n tree.Node, from int, loops *int) []Inst {
	var laid []Inst
	lay := func(inst Inst) { laid = append(laid, inst) }
	part := func(n tree.Node) { laid = append(laid, again(n, from+len(laid), loops)...) }
	// Below, -1 stands for what lies behind all.
	round := func(n tree.Node) {
		lay(Inst{Op: Split, X: from + len(laid) + 1, Y: -1})
		l := *loops
		*loops++
		lay(Inst{Op: Enter, X: l})
		part(n)
		lay(Inst{Op: Round, X: l})
	}
	switch n := n.(type) {
	case tree.One:
		lay(Inst{Op: Byte, Set: n.Set})
	case tree.Start:
		lay(Inst{Op: Begin})
	case tree.End:
		lay(Inst{Op: End})
	case tree.Back:
		lay(Inst{Op: Back, X: n.Number})
	case tree.Cat:
		for _, p := range n.Parts {
			part(p)
		}
	case tree.Alt:
		last := len(n.Parts) - 1
		for _, p := range n.Parts[:last] {
			split := len(laid)
			lay(Inst{Op: Split, X: from + split + 1})
			part(p)
			lay(Inst{Op: Jump, X: -1})
			laid[split].Y = from + len(laid)
		}
		part(n.Parts[last])
	case tree.Group:
		lay(Inst{Op: Save, X: 2 * n.Number})
		part(n.Of)
		lay(Inst{Op: Save, X: 2*n.Number + 1})
	case tree.Rep:
		for range n.Min {
			part(n.Of)
		}
		split := from + len(laid)
		for i := n.Min; i < n.Max; i++ {
			round(n.Of)
		}
		if n.Max == -1 {
			round(n.Of)
			lay(Inst{Op: Jump, X: split})
		}
	}
	for i := range laid {
		if laid[i].X == -1 {
			laid[i].X = from + len(laid)
		}
		if laid[i].Y == -1 {
			laid[i].Y = from + len(laid)
		}
	}
	return laid
}

// length is how many instructions a node has, or some number above MaxCode.
func length(n tree.Node) int {
	sum := 0
	switch n := n.(type) {
	case tree.One, tree.Start, tree.End, tree.Back:
		sum = 1
	case tree.Cat:
		for _, part := range n.Parts {
			sum += length(part)
		}
	case tree.Alt:
		for _, part := range n.Parts {
			sum += length(part) + 2
		}
		sum -= 2
	case tree.Group:
		sum = length(n.Of) + 2
	case tree.Rep:
		part := length(n.Of)
		sum = n.Min * part
		if n.Max == -1 {
			sum += part + 4
		} else {
			sum += (n.Max - n.Min) * (part + 3)
		}
	}
	return min(sum, api.MaxCode+1)
}

// wantAgain holds Compile of a right tree against the second reading, and tells whether there is a program.
func wantAgain(t *testing.T, n tree.Node) bool {
	t.Helper()
	if length(n)+3 > api.MaxCode {
		wantError(t, n, api.ErrLong)
		return false
	}
	loops := 0
	insts := append([]Inst{{Op: Save}}, again(n, 1, &loops)...)
	insts = append(insts, Inst{Op: Save, X: 1}, Inst{Op: Match})
	want := Program{insts, tree.Groups(n), loops, tree.Backs(n)}
	p, e := Compile(n)
	if e != api.OK || !same(p, want) {
		t.Fatalf("P7.1: Compile of %#v: %s, %d groups, %d loops, Backs %t, error %d; want %s, %d, %d, %t", n, told(p.Insts), p.Groups, p.Loops, p.Backs, e, told(want.Insts), want.Groups, want.Loops, want.Backs)
	}
	return true
}

// P7.1: all bounds that a Rep may have, of parts with and without loops.
func TestAllBounds(t *testing.T) {
	parts := []tree.Node{a, group(1, alt(a, b)), rep(a, 0, -1), rep(b, 1, 2), rep(a, 0, 0)}
	for least := range api.MaxBound + 1 {
		for most := -1; most <= api.MaxBound; most++ {
			if most >= 0 && most < least {
				continue
			}
			if least > 6 && least < 250 && least%9 != 0 || most > 9 && most < 250 && most%13 != 0 {
				wantAgain(t, rep(a, least, most))
				continue
			}
			for _, part := range parts {
				wantAgain(t, rep(part, least, most))
			}
		}
	}
}

// P7.1: of all short texts that either parser reads, the program is as the second reading has it.
func TestAllShortTexts(t *testing.T) {
	basic := []string{"a", "*", "^", "$", `\(`, `\)`, `\|`, `\{2\}`, `\{0,2\}`, `\{1,\}`, `\1`, `\?`}
	extended := []string{"a", "*", "^", "$", "(", ")", "|", "{2}", "{0,2}", "{1,}", "{0}", `\1`, "?"}
	right := wantAllShort(t, bre.Parse, basic, 5) + wantAllShort(t, ere.Parse, extended, 5)
	if right < 40000 {
		t.Errorf("only %d texts were regexes", right)
	}
}

// wantAllShort does so with all texts of up to so many parts, and tells how many were regexes.
func wantAllShort(t *testing.T, parse func(string) (tree.Node, []api.Mark, int, api.Errno), parts []string, most int) int {
	t.Helper()
	right := 0
	texts := []string{""}
	for range most {
		var longer []string
		for _, s := range texts {
			for _, part := range parts {
				longer = append(longer, s+part)
			}
		}
		for _, s := range longer {
			if n, _, _, e := parse(s); e == api.OK && wantAgain(t, n) {
				right++
			}
		}
		texts = longer
	}
	return right
}

// maker makes right trees, by numbers that a short rule of remainders tells.
type maker struct {
	x      uint32
	groups int
	closed []int
}

func (m *maker) next(n int) int {
	m.x ^= m.x << 13
	m.x ^= m.x >> 17
	m.x ^= m.x << 5
	return int(m.x % uint32(n))
}

func (m *maker) regex(depth int) tree.Node {
	branches := []tree.Node{m.branch(depth)}
	for m.next(3) == 0 {
		branches = append(branches, m.branch(depth))
	}
	return tree.Choose(branches...)
}

func (m *maker) branch(depth int) tree.Node {
	var pieces []tree.Node
	for range m.next(5) {
		piece := m.atom(depth)
		for m.next(3) == 0 && !slices.Contains([]tree.Node{start, end}, piece) {
			least := m.next(4)
			piece = rep(piece, least, []int{-1, -1, least, least + 1, least + 2}[m.next(5)])
		}
		pieces = append(pieces, piece)
	}
	return tree.Join(pieces...)
}

func (m *maker) atom(depth int) tree.Node {
	switch k := m.next(9); {
	case k == 0:
		return start
	case k == 1:
		return end
	case k == 2 && len(m.closed) > 0:
		return back(m.closed[m.next(len(m.closed))])
	case k < 6 && depth > 0:
		m.groups++
		number := m.groups
		of := m.regex(depth - 1)
		m.closed = append(m.closed, number)
		return group(number, of)
	}
	return tree.One{Set: octet.Span(byte(m.next(200)), byte(m.next(256)))}
}

// P7.1 and P7: of made trees the program is as the second reading has it, or there is none, as it is too long.
func TestMadeTrees(t *testing.T) {
	programs, long := 0, 0
	for i := range 8000 {
		m := &maker{x: uint32(i+1) * 2654435761}
		m.next(2)
		n := m.regex(6)
		if !tree.Right(n) {
			t.Fatalf("%#v isn't right", n)
		}
		if wantAgain(t, n) {
			programs++
		} else {
			long++
		}
	}
	if programs < 4000 || long < 40 {
		t.Errorf("%d programs, %d too long", programs, long)
	}
}

// P7.1: MaxCode instructions are allowed, one more aren't, whichever nodes they are of.
func TestLongest(t *testing.T) {
	var groups tree.Node = a
	for i := range 1400 {
		groups = group(1400-i, groups)
	}
	const room = api.MaxCode - 3
	wantAgain(t, cat(ones(room)...))
	wantError(t, cat(ones(room+1)...), api.ErrLong)
	for _, n := range []tree.Node{
		a, start, group(1, nil), group(1, alt(ones(990)...)), groups,
		rep(rep(a, 255, 255), 11, 11), rep(rep(a, 100, -1), 28, 28), rep(rep(a, 255, 255), 10, -1),
		rep(rep(a, 0, 255), 2, 2), rep(rep(a, 5, 250), 2, 2), rep(rep(rep(a, 0, -1), 0, -1), 0, -1),
		rep(rep(rep(a, 10, 10), 10, 10), 10, 28), rep(rep(rep(rep(a, 0, 1), 0, 2), 0, 3), 0, 4), rep(rep(a, 0, 0), 0, 255),
	} {
		more := room - length(n)
		if more < 2 {
			t.Fatalf("%d instructions are left beside %.200s", more, fmt.Sprintf("%#v", n))
		}
		if !wantAgain(t, cat(append(ones(more), n)...)) || !wantAgain(t, cat(append([]tree.Node{n}, ones(more)...)...)) {
			t.Errorf("P7.1: %d instructions are too long", api.MaxCode)
		}
		wantError(t, cat(append(ones(more+1), n)...), api.ErrLong)
		wantError(t, cat(append([]tree.Node{n}, ones(more+1)...)...), api.ErrLong)
		wantError(t, cat(append(append(ones(more), n), ones(1)...)...), api.ErrLong)
	}
	wantError(t, rep(rep(a, 255, 255), 12, 12), api.ErrLong)
	wantError(t, rep(rep(a, 0, 255), 3, 3), api.ErrLong)
	wantError(t, alt(ones(1001)...), api.ErrLong)
	wantError(t, group(1, rep(rep(group(2, rep(a, 0, 255)), 255, 255), 255, -1)), api.ErrLong)
	// What isn't laid may be as long as it likes.
	wantProgram(t, rep(rep(rep(group(1, a), 255, 255), 255, 255), 0, 0), "", 0)
	wantProgram(t, cat(rep(rep(group(1, cat(ones(4000)...)), 0, -1), 0, 0), b), "byte,b-b", 0)
}

// stranger is a node that chapter 3 doesn't list.
type stranger struct{ tree.Node }

// P7.1: of a tree that isn't right there is no program, wherever in it something is wrong, also if it is too long.
func TestTreesThatAreNotRight(t *testing.T) {
	wrong := []tree.Node{
		tree.Cat{}, cat(a), cat(a, nil), cat(empty, a), cat(a, cat(b, c)), cat(alt(a, b), c),
		tree.Alt{}, alt(a), alt(a, alt(b, c)),
		rep(nil, 0, -1), rep(empty, 0, 0), rep(start, 0, -1), rep(end, 0, 1), rep(cat(a, b), 0, -1), rep(alt(a, b), 1, -1),
		rep(a, -1, -1), rep(a, 0, -2), rep(a, 2, 1), rep(a, 0, 256), rep(a, 256, -1), rep(a, 256, 256), tree.Rep{},
		rep(a, math.MinInt, math.MaxInt), rep(a, math.MaxInt, math.MaxInt), rep(a, 0, math.MaxInt), rep(a, math.MaxInt, -1),
		group(0, a), group(2, a), group(-1, a), tree.Group{}, group(math.MaxInt, a), group(1, group(1, a)), cat(group(2, a), group(1, b)),
		back(1), back(0), tree.Back{}, back(math.MinInt), cat(back(1), group(1, a)), group(1, back(1)), cat(group(1, a), back(2)), cat(group(1, a), back(-1)),
		&tree.One{Set: octet.Of('a')}, &tree.Empty{}, stranger{a}, stranger{}, (*tree.One)(nil),
	}
	long := ones(api.MaxCode)
	for _, n := range wrong {
		wantError(t, n, api.ErrForm)
		for _, whole := range []tree.Node{alt(c, n), cat(c, n), cat(n, c), group(1, n), rep(n, 0, 0), rep(n, 1, 2), group(1, rep(group(2, alt(c, cat(c, n))), 0, 1)), alt(n, cat(long...)), alt(cat(long...), n)} {
			// Wrong by its place or number alone, it may be right elsewhere.
			if !tree.Right(whole) {
				wantError(t, whole, api.ErrForm)
			}
		}
	}
	wantError(t, cat(append(ones(api.MaxCode), nil)...), api.ErrForm)
	wantError(t, cat(append([]tree.Node{nil}, long...)...), api.ErrForm)
}

// nest is a node within so many others.
func nest(n tree.Node, depth int, in func(i int, n tree.Node) tree.Node) tree.Node {
	for i := range depth {
		n = in(depth-i, n)
	}
	return n
}

// P7: the call ends, and doesn't panic, of very deep trees too.
func TestDeepTrees(t *testing.T) {
	// With so small a stack calls within calls, one a node, would not come to their end.
	defer debug.SetMaxStack(debug.SetMaxStack(16 << 20))
	const depth = 200_000
	reps := func(n tree.Node, least, most int) tree.Node {
		return nest(n, depth, func(_ int, n tree.Node) tree.Node { return rep(n, least, most) })
	}
	wantProgram(t, reps(a, 1, 1), "byte,a-a", 0)
	wantProgram(t, reps(a, 0, 0), "", 0)
	// Gone through as often as they would be laid, these would never end.
	wantProgram(t, reps(rep(a, 0, 0), 2, 2), "", 0)
	wantProgram(t, nest(rep(a, 0, 0), 3000, func(_ int, n tree.Node) tree.Node { return rep(n, 255, 255) }), "", 0)
	wantProgram(t, nest(rep(reps(a, 1, 1), 2, 2), 3, func(_ int, n tree.Node) tree.Node { return rep(n, 2, 2) }), strings.TrimSpace(strings.Repeat("byte,a-a ", 16)), 0)
	for _, bounds := range [][2]int{{0, -1}, {1, -1}, {255, -1}, {0, 1}, {1, 2}, {2, 2}, {0, 255}, {255, 255}} {
		n := reps(a, bounds[0], bounds[1])
		if p, e := Compile(n); e != api.ErrLong || len(p.Insts) != 0 {
			t.Errorf("P7: Compile of Reps of %v in one another: %d instructions, error %d", bounds, len(p.Insts), e)
		}
	}
	groups := nest(a, depth, group)
	if p, e := Compile(groups); e != api.ErrLong || p.Groups != 0 {
		t.Errorf("P7: Compile of %d groups in one another: error %d", depth, e)
	}
	if p, e := Compile(alt(rep(groups, 0, 0), b)); e != api.OK || p.Groups != depth || told(p.Insts) != "save0 split2,3 jump4 byte,b-b save1 match" {
		t.Errorf("P7.1: Compile of groups that aren't laid: %s, %d groups, error %d", told(p.Insts), p.Groups, e)
	}
}

// P7: the call ends, and doesn't panic, of very wide trees, and of one that is within itself.
func TestWideTrees(t *testing.T) {
	const width = 1_000_000
	for _, n := range []tree.Node{tree.Alt{Parts: make([]tree.Node, width)}, cat(ones(width)...), alt(ones(width)...)} {
		if p, e := Compile(n); e != api.ErrLong || len(p.Insts) != 0 {
			t.Errorf("P7: Compile of %d parts: %d instructions, error %d", width, len(p.Insts), e)
		}
	}
	if p, e := Compile(tree.Cat{Parts: slices.Repeat([]tree.Node{rep(a, 0, 0)}, width)}); e != api.OK || told(p.Insts) != "save0 save1 match" {
		t.Errorf("P7.1: Compile of %d parts that aren't laid: %d instructions, error %d", width, len(p.Insts), e)
	}
	round := []tree.Node{a, nil}
	round[1] = group(1, tree.Cat{Parts: round})
	if p, e := Compile(tree.Cat{Parts: round}); e != api.ErrForm || len(p.Insts) != 0 {
		t.Errorf("P7: Compile of a tree that is within itself: error %d", e)
	}
}

// P7.1: a copy is the same, of any program.
func TestCopy(t *testing.T) {
	made, _ := Compile(cat(group(1, rep(alternatives(), 0, 3)), back(1)))
	insts := []Inst{{Op: Byte, Set: octet.Span('a', 'z'), X: -1, Y: 7}, {Op: Match, X: math.MaxInt}, {Op: Op(-3), Y: math.MinInt}}
	for _, p := range []Program{made, {}, {Insts: []Inst{}}, {Insts: insts}, {Insts: insts[:1], Groups: -1, Loops: math.MaxInt, Backs: true}, {Groups: 1}, {Loops: 2}, {Backs: true}} {
		c := p.Copy()
		if !same(c, p) {
			t.Errorf("P7.1: Copy of %v: %v", p, c)
		}
	}
}

// alternatives is a group of some branches, the second of this tree.
func alternatives() tree.Node { return group(2, alt(a, rep(b, 1, -1), nil)) }

// P8 (R6): a copy has new memory, spare room included; a change of either is none of the other.
func TestCopyIsNew(t *testing.T) {
	insts := []Inst{{Op: Byte, Set: octet.Of('a')}, {Op: Match}, {Op: Jump, X: 5}}
	before := slices.Clone(insts)
	p := Program{Insts: insts[:2], Groups: 3}
	c := p.Copy()
	c.Insts[0].Op = Begin
	c.Insts = append(c.Insts, Inst{Op: End})
	c.Groups = 4
	if !slices.Equal(insts, before) || p.Groups != 3 {
		t.Errorf("P8 (R6): a change of a copy changed the program: %v", insts)
	}
	c = p.Copy()
	p.Insts[1] = Inst{Op: Back, X: 9}
	if !slices.Equal(c.Insts, before[:2]) {
		t.Errorf("P8 (R6): a change of the program changed a copy: %v", c.Insts)
	}
}

// P8 (R6 and R8): a tree that is handed in stays as it was, spare room included; each program is new; what was asked before doesn't matter.
func TestSameAnswersAgain(t *testing.T) {
	room := []tree.Node{a, rep(one("*"), 2, 3), group(1, alt(nil, b)), back(1), end, c}
	before := slices.Clone(room)
	trees := []tree.Node{tree.Cat{Parts: room[:4]}, tree.Alt{Parts: room[:3]}, cat(a), nil, cat(ones(api.MaxCode)...), group(1, tree.Alt{Parts: room[:2]})}
	first := make([]Program, len(trees))
	for round := range 3 {
		for i, n := range trees {
			p, e := Compile(n)
			if round == 0 {
				first[i] = p.Copy()
			}
			if !same(p, first[i]) {
				t.Errorf("P8 (R8): Compile of %#v: %v, %d", n, p, e)
			}
			if !reflect.DeepEqual(room, before) {
				t.Fatalf("P8 (R6): Compile of %#v changed it", n)
			}
			for k := range p.Insts {
				p.Insts[k] = Inst{Op: Match, X: -1}
			}
		}
	}
}
