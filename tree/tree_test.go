package tree

import (
	"fmt"
	"math"
	"reflect"
	"runtime"
	"slices"
	"testing"

	"placket/api"
	"placket/octet"
)

// The types and calls are just those that the chapter lists (R11).
var (
	_ = struct{}(Empty{})
	_ = struct{ Set octet.Set }(One{})
	_ = struct{ Parts []Node }(Cat{})
	_ = struct{ Parts []Node }(Alt{})
	_ = struct {
		Of       Node
		Min, Max int
	}(Rep{})
	_ = struct {
		Number int
		Of     Node
	}(Group{})
	_ = struct{ Number int }(Back{})
	_ = struct{}(Start{})
	_ = struct{}(End{})

	_ interface{ isNode() }              = Node(nil)
	_ func(Node) bool                    = Right
	_ func(a, b Node) bool               = Same
	_ func(Node) int                     = Size
	_ func(Node) int                     = Deep
	_ func(Node) int                     = Groups
	_ func(Node) bool                    = Backs
	_ func(...Node) Node                 = Join
	_ func(...Node) Node                 = Choose
	_ func(Node) octet.Set               = SetOf
	_ func(n Node, s octet.Set) (b bool) = Holds
)

var a, b, c = one('a'), one('b'), one('c')

func one(bytes ...byte) Node            { return One{octet.Of(bytes...)} }
func cat(parts ...Node) Node            { return Cat{parts} }
func alt(parts ...Node) Node            { return Alt{parts} }
func rep(of Node, least, most int) Node { return Rep{of, least, most} }
func group(n int, of Node) Node         { return Group{n, of} }
func back(n int) Node                   { return Back{n} }

// show is a tree as a text for a test's report.
func show(n Node) string { return fmt.Sprintf("%#v", n) }

// entry is a node of a tree, with the times at which it begins and ends as the tree is gone through from the front.
type entry struct {
	node       Node
	begin, end int
	depth      int // how many groups it is in
}

// entries are all nodes of a tree, from the front: a second going-through, by calls within calls.
func entries(n Node) []entry {
	var all []entry
	time := 0
	var visit func(n Node, depth int)
	visit = func(n Node, depth int) {
		if n == nil {
			n = Empty{}
		}
		number := len(all)
		all = append(all, entry{node: n, begin: time, depth: depth})
		time++
		var parts []Node
		switch x := n.(type) {
		case Cat:
			parts = x.Parts
		case Alt:
			parts = x.Parts
		case Rep:
			parts = []Node{x.Of}
		case Group:
			parts = []Node{x.Of}
			depth++
		}
		for _, part := range parts {
			visit(part, depth)
		}
		all[number].end = time
		time++
	}
	visit(n, 0)
	return all
}

// is tells whether a node is of one of these types, written by their names.
func is(n Node, names ...string) bool {
	if n == nil {
		n = Empty{}
	}
	return slices.Contains(names, reflect.TypeOf(n).Name())
}

// rightAgain is a second reading of what the chapter says of right trees.
func rightAgain(n Node) bool {
	all := entries(n)
	groups := 0
	for _, e := range all {
		switch x := e.node.(type) {
		case Group:
			groups++
			if x.Number != groups {
				return false
			}
		case Back:
			ended := slices.ContainsFunc(all, func(o entry) bool {
				g, ok := o.node.(Group)
				return ok && g.Number == x.Number && o.end < e.begin
			})
			if !ended {
				return false
			}
		case Rep:
			if x.Min < 0 || x.Min > 255 || x.Max < -1 || x.Max > 255 || x.Max >= 0 && x.Max < x.Min {
				return false
			}
			if is(x.Of, "Empty", "Start", "End", "Cat", "Alt") {
				return false
			}
		case Cat:
			if len(x.Parts) < 2 {
				return false
			}
			for _, part := range x.Parts {
				if is(part, "Empty", "Cat", "Alt") {
					return false
				}
			}
		case Alt:
			if len(x.Parts) < 2 {
				return false
			}
			for _, part := range x.Parts {
				if is(part, "Alt") {
					return false
				}
			}
		}
	}
	return true
}

// wantAgain holds what is told of a tree against the second going-through.
func wantAgain(t *testing.T, n Node) {
	t.Helper()
	all := entries(n)
	groups, deep, backs := 0, 0, false
	for _, e := range all {
		if is(e.node, "Group") {
			groups++
			deep = max(deep, e.depth+1)
		}
		backs = backs || is(e.node, "Back")
	}
	if got := Size(n); got != len(all) {
		t.Fatalf("P3.1: Size of %s: %d, not %d", show(n), got, len(all))
	}
	if got := Groups(n); got != groups {
		t.Fatalf("P3.1: Groups of %s: %d, not %d", show(n), got, groups)
	}
	if got := Deep(n); got != deep {
		t.Fatalf("P3.1: Deep of %s: %d, not %d", show(n), got, deep)
	}
	if got := Backs(n); got != backs {
		t.Fatalf("P3.1: Backs of %s: %t", show(n), got)
	}
	if got, want := Right(n), rightAgain(n); got != want {
		t.Fatalf("P3.1: Right of %s: %t", show(n), got)
	}
	if !Same(n, n) {
		t.Fatalf("P3.1: %s isn't the same as itself", show(n))
	}
}

// P3.1: the chapter's example.
func TestExample(t *testing.T) {
	if got := Join(a, Empty{}, cat(b, c)); !reflect.DeepEqual(got, cat(a, b, c)) {
		t.Errorf("P3.1: Join of a One, Empty and a Cat of two: %s", show(got))
	}
}

func wantRight(t *testing.T, right bool, nodes ...Node) {
	t.Helper()
	for _, n := range nodes {
		if Right(n) != right {
			t.Errorf("P3.1: Right of %s: %t", show(n), !right)
		}
	}
}

// P3.1: each kind of node alone; what isn't told is as Empty.
func TestRightOfSingleNodes(t *testing.T) {
	wantRight(t, true, nil, Empty{}, a, One{}, One{octet.Set{}.Not()}, Start{}, End{})
	wantRight(t, false, Cat{}, Alt{}, Rep{}, Group{}, Back{}, cat(), alt(), back(1))
}

// P3.1: groups are numbered 1, 2, and so on, a group ahead of those within it.
func TestRightNumbersOfGroups(t *testing.T) {
	wantRight(t, true,
		group(1, a), group(1, nil), group(1, Empty{}), group(1, Start{}), group(1, cat(a, b)), group(1, alt(a, b)),
		cat(group(1, a), group(2, b)),
		alt(group(1, a), group(2, b)),
		group(1, group(2, group(3, a))),
		cat(group(1, cat(group(2, a), group(3, b))), group(4, c)),
		rep(group(1, rep(group(2, a), 0, 1)), 0, -1),
	)
	wantRight(t, false,
		group(0, a), group(2, a), group(-1, a), group(math.MaxInt, a), group(math.MinInt, a),
		cat(group(1, a), group(1, b)),
		cat(group(2, a), group(1, b)),
		cat(group(1, a), group(3, b)),
		group(2, group(1, a)),
		group(1, group(1, a)),
		cat(group(1, group(3, a)), group(2, b)),
		alt(group(1, a), group(1, b)),
		rep(group(2, a), 0, -1),
	)
	var many []Node
	for i := range 1000 {
		many = append(many, group(i+1, nil))
	}
	wantRight(t, true, cat(many...), cat(append(many, back(1000))...))
	wantRight(t, false, cat(many[1:]...), cat(append(many, back(1001))...))
}

// P3.1: a Back has the number of a group that ended ahead of it.
func TestRightBacks(t *testing.T) {
	wantRight(t, true,
		cat(group(1, a), back(1)),
		cat(group(1, a), b, rep(back(1), 2, 3), back(1)),
		alt(group(1, a), back(1)),
		cat(group(1, group(2, a)), back(1), back(2)),
		group(1, cat(group(2, a), back(2))),
		cat(group(1, a), group(2, back(1))),
		cat(rep(group(1, a), 0, -1), back(1)),
		group(1, alt(group(2, a), group(3, back(2)), back(3))),
	)
	wantRight(t, false,
		cat(back(1), group(1, a)),
		group(1, back(1)),
		group(1, cat(a, back(1))),
		group(1, cat(group(2, a), back(1))),
		group(1, group(2, alt(a, back(2)))),
		cat(group(1, group(2, cat(a, back(1)))), b),
		cat(group(1, a), back(0)), cat(group(1, a), back(-1)), cat(group(1, a), back(2)),
		cat(group(1, a), back(math.MaxInt)), cat(group(1, a), back(math.MinInt)),
		cat(group(1, a), back(2), group(2, b)),
		rep(back(1), 0, 1),
	)
}

// P3.1: a Rep has 0 <= Min <= MaxBound, and Max is -1, or from Min to MaxBound.
func TestRightBoundsOfReps(t *testing.T) {
	edges := []int{math.MinInt, -256, -2, -1, 0, 1, 2, 254, api.MaxBound, api.MaxBound + 1, 1000, math.MaxInt}
	for _, least := range edges {
		for _, most := range edges {
			want := least >= 0 && least <= api.MaxBound && (most == -1 || most >= least && most <= api.MaxBound)
			wantRight(t, want, rep(a, least, most), rep(rep(a, least, most), 0, -1), group(1, rep(group(2, a), least, most)), cat(a, rep(b, least, most)), alt(nil, rep(b, least, most)))
		}
	}
}

// P3.1: what a Rep may be of, and what it may not.
func TestRightPartsOfReps(t *testing.T) {
	wantRight(t, true, rep(a, 0, -1), rep(rep(a, 1, -1), 0, 1), rep(rep(rep(a, 2, 2), 3, 3), 4, 4), rep(group(1, nil), 0, -1), rep(group(1, alt(a, b)), 0, 0), cat(group(1, a), rep(back(1), 0, -1)))
	for _, of := range []Node{nil, Empty{}, Start{}, End{}, cat(a, b), alt(a, b), Cat{}, Alt{}} {
		wantRight(t, false, rep(of, 0, -1), rep(of, 1, 1), rep(rep(of, 0, 1), 0, 1), cat(a, rep(of, 0, -1)), alt(a, rep(of, 0, -1)), group(1, rep(of, 0, -1)))
	}
}

// P3.1: a Cat has two parts at least, of which none is Empty, Cat or Alt.
func TestRightCats(t *testing.T) {
	wantRight(t, true, cat(a, b), cat(a, a), cat(a, b, c), cat(Start{}, End{}), cat(Start{}, a), cat(a, End{}), cat(End{}, a, Start{}), cat(a, rep(b, 0, -1)), cat(group(1, a), b))
	wantRight(t, false, cat(), cat(a), cat(cat(a, b)), cat(nil), cat(nil, nil))
	for _, part := range []Node{nil, Empty{}, cat(a, b), alt(a, b), Cat{}, Alt{}} {
		wantRight(t, false, cat(part, a), cat(a, part), cat(a, part, b), cat(a, b, part), group(1, cat(a, part)), alt(a, cat(b, part)))
	}
}

// P3.1: an Alt has two parts at least, of which none is Alt.
func TestRightAlts(t *testing.T) {
	wantRight(t, true, alt(a, b), alt(a, a), alt(nil, nil), alt(Empty{}, a), alt(a, nil, b), alt(Start{}, End{}), alt(cat(a, b), c), alt(a, group(1, alt(a, b))), alt(rep(a, 0, 1), b))
	wantRight(t, false, alt(), alt(a), alt(nil), alt(cat(a, b)))
	for _, part := range []Node{alt(a, b), Alt{}, alt(nil, nil)} {
		wantRight(t, false, alt(part, a), alt(a, part), alt(a, part, b), alt(a, nil, part), group(1, alt(a, part)))
	}
	wantRight(t, false, alt(a, cat(b)), alt(a, cat(b, nil)))
}

// kinds are trees of which no two are the same.
func kinds() []Node {
	return []Node{
		nil, a, b, One{}, One{octet.Of('a').Not()}, Start{}, End{},
		back(0), back(1), back(2), group(0, nil), group(1, nil), group(2, nil), group(1, a), group(1, b), group(2, a),
		rep(nil, 0, 0), rep(nil, 0, -1), rep(a, 0, 0), rep(a, 0, -1), rep(a, 1, -1), rep(a, 0, 1), rep(a, 1, 1), rep(a, -1, 0), rep(b, 0, -1), rep(rep(a, 0, -1), 0, -1), rep(group(1, a), 0, -1),
		cat(), cat(nil), cat(a), cat(nil, nil), cat(a, nil), cat(nil, a), cat(a, a), cat(a, b), cat(b, a), cat(a, b, a), cat(a, b, nil), cat(cat(a, b)), cat(a, cat(b)), cat(a, cat(b, c)), cat(cat(a, b), c), cat(a, b, c), cat(alt(a, b)),
		alt(), alt(nil), alt(a), alt(nil, nil), alt(a, nil), alt(nil, a), alt(a, a), alt(a, b), alt(b, a), alt(a, b, a), alt(a, b, nil), alt(alt(a, b)), alt(a, alt(b)), alt(a, alt(b, c)), alt(alt(a, b), c), alt(a, b, c), alt(cat(a, b)),
		cat(rep(a, 0, 1), b), cat(rep(a, 0, 2), b), cat(rep(b, 0, 1), b), group(1, cat(a, group(2, b))), group(1, cat(a, group(3, b))), group(1, cat(a, group(2, a))),
	}
}

// P3.1: two trees are the same just if they are so part by part, whichever way round they are held.
func TestSame(t *testing.T) {
	for i, x := range kinds() {
		for j, y := range kinds() {
			if Same(x, y) != (i == j) || Same(y, x) != (i == j) {
				t.Errorf("P3.1: Same of %s and %s", show(x), show(y))
			}
			if wantIn := i == j; Same(cat(x, a), cat(y, a)) != wantIn || Same(alt(a, x), alt(a, y)) != wantIn || Same(rep(x, 0, -1), rep(y, 0, -1)) != wantIn || Same(group(1, x), group(1, y)) != wantIn {
				t.Errorf("P3.1: Same of %s and %s within another node", show(x), show(y))
			}
		}
	}
}

// P3.1: what isn't told is as Empty; an empty list is nil or empty (R5).
func TestSameOfWhatMeansTheSame(t *testing.T) {
	for _, p := range [][2]Node{
		{nil, nil}, {nil, Empty{}}, {Empty{}, Empty{}},
		{cat(a, nil), cat(a, Empty{})}, {alt(nil, a), alt(Empty{}, a)}, {rep(nil, 0, 1), rep(Empty{}, 0, 1)}, {group(1, nil), group(1, Empty{})},
		{Cat{nil}, Cat{[]Node{}}}, {Alt{nil}, Alt{[]Node{}}}, {group(1, Cat{nil}), group(1, Cat{[]Node{}})},
	} {
		if !Same(p[0], p[1]) || !Same(p[1], p[0]) {
			t.Errorf("P3.1: %s and %s aren't the same", show(p[0]), show(p[1]))
		}
	}
	for _, n := range []Node{Cat{}, Alt{}, cat(nil), alt(nil), Start{}, End{}, One{}, Rep{}, Group{}, Back{}} {
		if Same(n, nil) || Same(nil, n) || Same(n, Empty{}) || Same(Empty{}, n) {
			t.Errorf("P3.1: %s is the same as Empty", show(n))
		}
	}
}

// P3.1: how many nodes and groups a tree has, how deep these are, and whether there is a Back.
func TestSizeDeepGroupsBacks(t *testing.T) {
	for _, x := range []struct {
		n                  Node
		size, deep, groups int
		backs              bool
	}{
		{nil, 1, 0, 0, false},
		{Empty{}, 1, 0, 0, false},
		{a, 1, 0, 0, false},
		{Start{}, 1, 0, 0, false},
		{End{}, 1, 0, 0, false},
		{back(1), 1, 0, 0, true},
		{Cat{}, 1, 0, 0, false},
		{Alt{}, 1, 0, 0, false},
		{cat(a, nil), 3, 0, 0, false},
		{alt(nil, nil, nil), 4, 0, 0, false},
		{rep(nil, 0, 5), 2, 0, 0, false},
		{rep(a, 255, 255), 2, 0, 0, false},
		{group(1, nil), 2, 1, 1, false},
		{group(7, back(7)), 2, 1, 1, true},
		{group(1, group(1, group(1, a))), 4, 3, 3, false},
		{cat(group(1, a), group(2, group(3, b)), group(4, c)), 8, 2, 4, false},
		{cat(group(1, group(2, group(3, a))), group(4, b), group(5, group(6, back(1)))), 10, 3, 6, true},
		{alt(rep(group(1, a), 0, -1), cat(b, rep(group(2, alt(nil, group(3, c))), 1, 2))), 12, 2, 3, false},
		{rep(rep(rep(back(0), 1, 1), 1, 1), 1, 1), 4, 0, 0, true},
		{cat(cat(cat(), alt()), cat(cat(a))), 7, 0, 0, false},
	} {
		if size, deep, groups, backs := Size(x.n), Deep(x.n), Groups(x.n), Backs(x.n); size != x.size || deep != x.deep || groups != x.groups || backs != x.backs {
			t.Errorf("P3.1: Size, Deep, Groups, Backs of %s: %d, %d, %d, %t", show(x.n), size, deep, groups, backs)
		}
		wantAgain(t, x.n)
	}
	for _, n := range kinds() {
		wantAgain(t, n)
	}
}

// P3.1: Join leaves out Empty ones, and puts a Cat's parts in its place, as they are.
func TestJoin(t *testing.T) {
	ab, bc := cat(a, b), cat(b, c)
	for _, x := range []struct {
		parts []Node
		want  Node
	}{
		{nil, Empty{}},
		{[]Node{}, Empty{}},
		{[]Node{nil}, Empty{}},
		{[]Node{Empty{}, nil, Empty{}}, Empty{}},
		{[]Node{Cat{}}, Empty{}},
		{[]Node{Cat{}, nil, Cat{}}, Empty{}},
		{[]Node{a}, a},
		{[]Node{nil, a, Empty{}}, a},
		{[]Node{One{}}, One{}},
		{[]Node{Start{}}, Start{}},
		{[]Node{alt(a, b)}, alt(a, b)},
		{[]Node{Alt{}}, Alt{}},
		{[]Node{cat(a)}, a},
		{[]Node{Cat{}, cat(a), nil}, a},
		{[]Node{a, a}, cat(a, a)},
		{[]Node{b, a}, cat(b, a)},
		{[]Node{ab}, cat(a, b)},
		{[]Node{ab, bc}, cat(a, b, b, c)},
		{[]Node{a, bc, a}, cat(a, b, c, a)},
		{[]Node{Start{}, ab, End{}}, cat(Start{}, a, b, End{})},
		{[]Node{a, alt(a, b), nil}, cat(a, alt(a, b))},
		{[]Node{alt(a, b), Alt{}}, cat(alt(a, b), Alt{})},
		{[]Node{group(1, nil), rep(a, 0, 1), back(1)}, cat(group(1, nil), rep(a, 0, 1), back(1))},
		// A Cat's parts aren't looked at.
		{[]Node{cat(ab)}, ab},
		{[]Node{cat(ab, bc)}, cat(ab, bc)},
		{[]Node{cat(cat(Empty{}))}, cat(Empty{})},
		{[]Node{cat(Empty{})}, Empty{}},
		{[]Node{a, cat(Empty{})}, cat(a, Empty{})},
		{[]Node{a, cat(nil, b)}, cat(a, nil, b)},
		{[]Node{cat(nil, nil)}, cat(nil, nil)},
		{[]Node{a, cat(b, bc)}, cat(a, b, bc)},
	} {
		if got := Join(x.parts...); !reflect.DeepEqual(got, x.want) {
			t.Errorf("P3.1: Join of %s: %s, not %s", show(Cat{x.parts}), show(got), show(x.want))
		}
	}
	if got := Join(cat(nil)); !Same(got, Empty{}) {
		t.Errorf("P3.1: Join of a Cat of what isn't told: %s", show(got))
	}
}

// P3.1: Choose puts an Alt's parts in its place, as they are, and leaves nothing out.
func TestChoose(t *testing.T) {
	ab, bc := alt(a, b), alt(b, c)
	for _, x := range []struct {
		parts []Node
		want  Node
	}{
		{nil, Empty{}},
		{[]Node{}, Empty{}},
		{[]Node{Alt{}}, Empty{}},
		{[]Node{Alt{}, Alt{}}, Empty{}},
		{[]Node{Empty{}}, Empty{}},
		{[]Node{a}, a},
		{[]Node{cat(a, b)}, cat(a, b)},
		{[]Node{Cat{}}, Cat{}},
		{[]Node{alt(a)}, a},
		{[]Node{Alt{}, a}, a},
		{[]Node{nil, nil}, alt(nil, nil)},
		{[]Node{Empty{}, a}, alt(Empty{}, a)},
		{[]Node{a, nil, b}, alt(a, nil, b)},
		{[]Node{a, a}, alt(a, a)},
		{[]Node{b, a}, alt(b, a)},
		{[]Node{ab}, alt(a, b)},
		{[]Node{ab, bc}, alt(a, b, b, c)},
		{[]Node{a, bc, a}, alt(a, b, c, a)},
		{[]Node{cat(a, b), group(1, ab)}, alt(cat(a, b), group(1, ab))},
		// An Alt's parts aren't looked at.
		{[]Node{alt(ab)}, ab},
		{[]Node{alt(ab, bc)}, alt(ab, bc)},
		{[]Node{alt(nil, Empty{})}, alt(nil, Empty{})},
		{[]Node{a, alt(b, bc)}, alt(a, b, bc)},
		{[]Node{alt(Alt{}), a}, alt(Alt{}, a)},
	} {
		if got := Choose(x.parts...); !reflect.DeepEqual(got, x.want) {
			t.Errorf("P3.1: Choose of %s: %s, not %s", show(Alt{x.parts}), show(got), show(x.want))
		}
	}
	for _, n := range []Node{nil, alt(nil)} {
		if got := Choose(n); !Same(got, Empty{}) {
			t.Errorf("P3.1: Choose of %s: %s", show(n), show(got))
		}
	}
}

// P8 (R6): the lists that are handed in are neither changed nor kept, spare room included.
func TestJoinAndChooseLeaveTheirArgumentsAlone(t *testing.T) {
	for name, call := range map[string]func(...Node) Node{"Join": Join, "Choose": Choose} {
		for _, room := range [][]Node{{a, b, c, Start{}}, {cat(a, b), b, End{}}, {alt(a, b), b, End{}}, {nil, a, b}, {Cat{}, Alt{}, a}} {
			before := slices.Clone(room)
			for n := range room {
				got := call(room[:n]...)
				told := show(got)
				if !reflect.DeepEqual(room, before) {
					t.Fatalf("P8 (R6): %s of %s changed it", name, show(Cat{before}))
				}
				for i := range room {
					room[i] = back(9)
				}
				if show(got) != told {
					t.Errorf("P8 (R6): %s of %s kept the list", name, show(Cat{before}))
				}
				copy(room, before)
			}
		}
		inner := []Node{a, b, c}
		for _, n := range []Node{Cat{inner[:2]}, Alt{inner[:2]}, Cat{inner[:1]}, Alt{inner[:1]}} {
			call(n, End{})
			call(n, n)
			if !reflect.DeepEqual(inner, []Node{a, b, c}) {
				t.Fatalf("P8 (R6): %s wrote into a part's spare room", name)
			}
		}
	}
}

// others are nodes that are no One.
func others() []Node {
	return []Node{nil, Empty{}, Start{}, End{}, Cat{}, Alt{}, Rep{}, Group{}, Back{}, cat(a), cat(a, b), alt(a), alt(a, b), rep(a, 1, 1), group(1, a), back(1)}
}

// P3.1 and P8 (R9): SetOf is a One's set, and panics just if the node is none; by an assertion.
func TestSetOf(t *testing.T) {
	for _, s := range []octet.Set{{}, octet.Of('a'), octet.Of(0, 255), octet.Set{}.Not(), {1, 2, 3, 4}} {
		if SetOf(One{s}) != s {
			t.Errorf("P3.1: SetOf of a One of %v", s)
		}
	}
	for _, n := range others() {
		thrown := func() (thrown any) {
			defer func() { thrown = recover() }()
			SetOf(n)
			return nil
		}()
		if _, ok := thrown.(*runtime.TypeAssertionError); !ok {
			t.Errorf("P3.1: SetOf of %s: it throws %v", show(n), thrown)
		}
	}
}

// P3.1: Holds tells a One of this set, and never panics.
func TestHolds(t *testing.T) {
	sets := []octet.Set{{}, octet.Of('a'), octet.Of('b'), octet.Of('a', 'b'), octet.Of(0), octet.Of(255), octet.Of('a').Not(), octet.Set{}.Not()}
	for i, s := range sets {
		for j, u := range sets {
			if Holds(One{s}, u) != (i == j) {
				t.Errorf("P3.1: Holds of a One of %v and %v", s, u)
			}
		}
		for _, n := range others() {
			if Holds(n, s) {
				t.Errorf("P3.1: Holds of %s and %v", show(n), s)
			}
		}
	}
}

// P3.1, P7 and P8 (R9): of all small trees what is told is as a second reading of the chapter has it.
func TestAllSmallTrees(t *testing.T) {
	leaves := []Node{nil, Empty{}, a, Start{}, End{}, back(1), back(2), Cat{}, Alt{}}
	bySize := [][]Node{nil, leaves}
	for size := 2; size <= 4; size++ {
		var all []Node
		for _, n := range bySize[size-1] {
			all = append(all, cat(n), alt(n), rep(n, 0, -1), rep(n, 2, 1), group(1, n), group(2, n))
		}
		for first := 1; first < size-1; first++ {
			for _, n := range bySize[first] {
				for _, m := range bySize[size-1-first] {
					all = append(all, cat(n, m), alt(n, m))
				}
			}
		}
		bySize = append(bySize, all)
	}
	for _, all := range bySize {
		for _, n := range all {
			wantAgain(t, n)
		}
	}
}

// maker makes trees by a short rule of remainders.
type maker struct {
	x      uint32
	groups int
	ended  []int
}

func (m *maker) next(n int) int {
	m.x ^= m.x << 13
	m.x ^= m.x >> 17
	m.x ^= m.x << 5
	return int(m.x % uint32(n))
}

// regex makes a right tree.
func (m *maker) regex(depth int) Node {
	if m.next(3) > 0 {
		return m.branch(depth)
	}
	var parts []Node
	for range 2 + m.next(3) {
		parts = append(parts, m.branch(depth))
	}
	return Alt{parts}
}

func (m *maker) branch(depth int) Node {
	var parts []Node
	for range m.next(5) {
		parts = append(parts, m.piece(depth))
	}
	switch len(parts) {
	case 0:
		return Empty{}
	case 1:
		return parts[0]
	}
	return Cat{parts}
}

func (m *maker) piece(depth int) Node {
	switch m.next(8) {
	case 0:
		return Start{}
	case 1:
		return End{}
	case 2, 3:
		least := m.next(256)
		most := -1
		if m.next(2) == 0 {
			most = least + m.next(256-least)
		}
		return rep(m.atom(depth), least, most)
	}
	return m.atom(depth)
}

func (m *maker) atom(depth int) Node {
	switch k := m.next(4); {
	case k == 0 && depth > 0:
		m.groups++
		number := m.groups
		of := m.regex(depth - 1)
		m.ended = append(m.ended, number)
		return group(number, of)
	case k == 1 && len(m.ended) > 0:
		return back(m.ended[m.next(len(m.ended))])
	}
	return one(byte(m.next(256)))
}

// changed is a tree with one node of it, of a number from the front, put otherwise.
func changed(n Node, number *int, put Node) Node {
	*number--
	if *number < 0 {
		return put
	}
	parts := func(l []Node) []Node {
		var all []Node
		for _, part := range l {
			if *number >= 0 {
				part = changed(part, number, put)
			}
			all = append(all, part)
		}
		return all
	}
	switch x := n.(type) {
	case Cat:
		return Cat{parts(x.Parts)}
	case Alt:
		return Alt{parts(x.Parts)}
	case Rep:
		return Rep{parts([]Node{x.Of})[0], x.Min, x.Max}
	case Group:
		return Group{x.Number, parts([]Node{x.Of})[0]}
	}
	return n
}

// P3.1: trees that were made right are told to be right; with one node put otherwise as a second reading has it, and another tree just if that was another one.
func TestMadeTrees(t *testing.T) {
	m := &maker{x: 2463534242}
	for range 3000 {
		m.groups, m.ended = 0, nil
		n := m.regex(3)
		wantRight(t, true, n)
		wantAgain(t, n)
		for range 5 {
			at := m.next(Size(n))
			old, put := entries(n)[at].node, kinds()[m.next(len(kinds()))]
			other := changed(n, &at, put)
			wantAgain(t, other)
			if Same(n, other) != Same(old, put) || Same(other, n) != Same(old, put) {
				t.Fatalf("P3.1: Same of %s and %s", show(n), show(other))
			}
		}
	}
}

// deepTree is a One within many groups and Reps, in turn.
func deepTree(groups int, inner Node) Node {
	for i := groups; i > 0; i-- {
		inner = group(i, rep(inner, 0, 1))
	}
	return inner
}

// P7: each call ends, and none panics, of very deep trees too.
func TestDeepTrees(t *testing.T) {
	const groups = 1_000_000
	n := deepTree(groups, a)
	if !Right(n) || Backs(n) {
		t.Error("P7: Right, Backs of a deep tree")
	}
	if size, deep, number := Size(n), Deep(n), Groups(n); size != 2*groups+1 || deep != groups || number != groups {
		t.Errorf("P7: Size, Deep, Groups of a deep tree: %d, %d, %d", size, deep, number)
	}
	withBack := deepTree(groups, back(1))
	if Right(withBack) || !Backs(withBack) {
		t.Error("P7: Right, Backs of a deep tree with a Back")
	}
	if !Same(n, deepTree(groups, a)) || Same(n, withBack) {
		t.Error("P7: Same of deep trees")
	}
}

// P8 (R7, R8): what was asked before doesn't matter, nor does a node that isn't told.
func TestSameAnswersAgain(t *testing.T) {
	for round := range 3 {
		for i, n := range kinds() {
			told := func() string {
				return fmt.Sprint(Right(n), Size(n), Deep(n), Groups(n), Backs(n), Same(n, nil), Holds(n, octet.Of('a')), show(Join(n, a)), show(Choose(a, n)))
			}
			first := told()
			Right(kinds()[(i+round)%len(kinds())])
			Join(n, n)
			Choose(n, n)
			if told() != first {
				t.Errorf("P8 (R8): of %s other answers than before", show(n))
			}
		}
	}
}
