package auto

import (
	"iter"
	"math/bits"

	"placket/code"
)

// state is what a text leaves; two texts have one state just if these are the same.
type state struct {
	sure bool // then all else is its zero value
	// Whether the text is empty: behind an End a Begin lets pass only there, so that texts of the same rest may end unlike.
	empty bool
	// The instructions of the rest: of number n the bit n modulo 8 of the byte n / 8. (A list of the numbers would be far longer where there are many, and a key of a map must be a text.)
	rest string
}

// first is the state of the empty text.
func first(p code.Program) state {
	w := newWalker(p)
	w.begins = true
	w.reach(0)
	return w.leaves()
}

// behind is the state behind one more byte.
func (s state) behind(p code.Program, b byte) state {
	if s.sure {
		return s
	}
	w := newWalker(p)
	w.reach(0)
	for at := range s.numbers() {
		// An End has the empty set.
		if w.Insts[at].Set.Has(b) {
			w.reach(at + 1)
		}
	}
	return w.leaves()
}

// ends tells whether the state ends well.
func (s state) ends(p code.Program) bool {
	if s.sure {
		return true
	}
	w := newWalker(p)
	w.begins, w.ends = s.empty, true
	for at := range s.numbers() {
		w.reach(at)
	}
	return w.leaves().sure
}

// numbers goes through the numbers of the rest, rising.
func (s state) numbers() iter.Seq[int] {
	return func(yield func(int) bool) {
		for i := range len(s.rest) {
			for left := s.rest[i]; left != 0; left &= left - 1 {
				if !yield(8*i + bits.TrailingZeros8(left)) {
					return
				}
			}
		}
	}
}

// walker goes along a program at one place of a text, as far as no byte is asked for, through each instruction once.
type walker struct {
	code.Program
	begins, ends bool // whether Begin, and End, let pass
	seen         []bool
	reached      []int
}

func newWalker(p code.Program) *walker {
	return &walker{Program: p, seen: make([]bool, len(p.Insts))}
}

// reach notes that an instruction is reached. (Where there is no such one it isn't: beside an error Compile answers a program without any.)
func (w *walker) reach(at int) {
	if at < len(w.Insts) && !w.seen[at] {
		w.seen[at] = true
		w.reached = append(w.reached, at)
	}
}

// leaves goes on from all that are reached, and is the state that the text ahead of the place leaves.
func (w *walker) leaves() state {
	rest := make([]byte, (len(w.Insts)+7)/8)
	for i := 0; i < len(w.reached); i++ {
		at := w.reached[i]
		switch w.Insts[at].Op {
		case code.Match:
			return state{sure: true}
		case code.Byte, code.End:
			rest[at/8] |= 1 << (at % 8)
		}
		w.pass(at)
	}
	return state{empty: w.begins, rest: string(rest)}
}

// pass reaches what an instruction leads to without a byte.
func (w *walker) pass(at int) {
	inst := &w.Insts[at]
	switch inst.Op {
	case code.Split:
		w.reach(inst.X)
		w.reach(inst.Y)
	case code.Jump:
		w.reach(inst.X)
	case code.Save, code.Enter, code.Round:
		w.reach(at + 1)
	case code.Begin:
		if w.begins {
			w.reach(at + 1)
		}
	case code.End:
		if w.ends {
			w.reach(at + 1)
		}
	}
}
