package solve

import (
	"slices"

	"placket/api"
	"placket/auto"
	"placket/code"
	"placket/octet"
)

// maxBound is the greatest bound of a search.
const maxBound = 100000

// search is the rows that were come to, and are or will be looked at.
type search struct {
	autos []*auto.Auto // first of those that must have a match
	must  int          // how many these are
	bytes []byte       // by which it goes on from a row
	bound int
	rows  []row
	known map[string]struct{} // the rows' keys
}

// row is a state of each automaton, and how one came to it. (Not by which line: those of all rows may be far too long together.)
type row struct {
	states []int
	from   int // the row ahead of it
	by     byte
}

// newSearch is a question's; false, if it may not be searched for.
func newSearch(must, not []code.Program, bound int) (*search, bool) {
	if bound < 1 || bound > maxBound {
		return nil, false
	}
	programs := slices.Concat(must, not)
	s := &search{must: len(must), bytes: leasts(programs), bound: bound, known: map[string]struct{}{}}
	for _, p := range programs {
		a, err := auto.New(p, bound)
		if err != api.OK {
			return nil, false
		}
		s.autos = append(s.autos, a)
	}
	return s, true
}

// leasts is, of all bytes that no program tells apart, the least; rising. By the others one comes to no other rows, and they make no lesser line.
func leasts(programs []code.Program) []byte {
	parts := []octet.Set{octet.Of('\n').Not()}
	for _, p := range programs {
		for _, inst := range p.Insts {
			parts = split(parts, inst.Set)
		}
	}
	var leasts []byte
	for _, part := range parts {
		if b, ok := part.Least(); ok {
			leasts = append(leasts, b)
		}
	}
	slices.Sort(leasts)
	return leasts
}

// split makes two of each part that has bytes that are in a set, and others that aren't.
func split(parts []octet.Set, set octet.Set) []octet.Set {
	for i, part := range parts {
		in, out := part.And(set), part.And(set.Not())
		if in.Len() > 0 && out.Len() > 0 {
			parts[i] = in
			parts = append(parts, out)
		}
	}
	return parts
}

// answer looks at all rows, or at as many as it takes.
func (s *search) answer() (Verdict, string) {
	if v := s.comeTo(row{states: make([]int, len(s.autos))}); v != No {
		return v, ""
	}
	for at := 0; at < len(s.rows); at++ {
		for _, b := range s.bytes {
			next, ok := s.behind(at, b)
			if !ok {
				return Unknown, ""
			}
			switch s.comeTo(next) {
			case Yes:
				return Yes, s.line(next)
			case Unknown:
				return Unknown, ""
			}
		}
	}
	return No, ""
}

// behind is the row behind one more byte; false, if an automaton would have to meet too many states.
func (s *search) behind(at int, b byte) (row, bool) {
	next := row{make([]int, len(s.autos)), at, b}
	for i, a := range s.autos {
		state, err := a.Step(s.rows[at].states[i], b)
		if err != api.OK {
			return row{}, false
		}
		next.states[i] = state
	}
	return next, true
}

// comeTo tells what is known by a row: No, if nothing is yet; then it will be looked at, if it may lead to a line, and wasn't come to before.
func (s *search) comeTo(r row) Verdict {
	key := r.key()
	if _, known := s.known[key]; known || s.lost(r) {
		return No
	}
	if s.right(r) {
		return Yes
	}
	if len(s.rows) == s.bound {
		return Unknown
	}
	s.known[key] = struct{}{}
	s.rows = append(s.rows, r)
	return No
}

// lost tells whether what must not have a match has one, however the line goes on.
func (s *search) lost(r row) bool {
	for i := s.must; i < len(s.autos); i++ {
		if s.autos[i].Sure(r.states[i]) {
			return true
		}
	}
	return false
}

// right tells whether the line may end with a row.
func (s *search) right(r row) bool {
	for i, a := range s.autos {
		if a.Ends(r.states[i]) != (i < s.must) {
			return false
		}
	}
	return true
}

// key is a row's states as a text. (Each is below the bound, so it has three bytes.)
func (r row) key() string {
	key := make([]byte, 0, 3*len(r.states))
	for _, state := range r.states {
		key = append(key, byte(state), byte(state>>8), byte(state>>16))
	}
	return string(key)
}

// line is the one by which one came to a row.
func (s *search) line(r row) string {
	line := []byte{r.by}
	for at := r.from; at > 0; at = s.rows[at].from {
		line = append(line, s.rows[at].by)
	}
	slices.Reverse(line)
	return string(line)
}
