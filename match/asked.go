package match

import (
	"slices"

	"placket/code"
)

// askedSlots is, for each instruction, the slots for which a Back may ask behind it, ahead of a Save that sets them anew: only by these it matters what a way did before. (None, if there is no Back.)
func askedSlots(p code.Program) [][]int {
	if !p.Backs {
		return nil
	}
	asked := make([][]int, len(p.Insts))
	before := sources(p)
	for group, backs := range backsOf(p) {
		for _, slot := range []int{2 * group, 2*group + 1} {
			for _, inst := range askers(p, before, slot, backs) {
				asked[inst] = append(asked[inst], slot)
			}
		}
	}
	for _, slots := range asked {
		slices.Sort(slots)
	}
	return asked
}

// backsOf is the Backs of each group.
func backsOf(p code.Program) map[int][]int {
	backs := map[int][]int{}
	for i, inst := range p.Insts {
		if inst.Op == code.Back {
			backs[inst.X] = append(backs[inst.X], i)
		}
	}
	return backs
}

// sources is, for each instruction, those that may lead to it.
func sources(p code.Program) [][]int {
	sources := make([][]int, len(p.Insts))
	lead := func(from, to int) { sources[to] = append(sources[to], from) }
	for i, inst := range p.Insts {
		switch inst.Op {
		case code.Split:
			lead(i, inst.X)
			lead(i, inst.Y)
		case code.Jump:
			lead(i, inst.X)
		case code.Match:
		default:
			lead(i, i+1)
		}
	}
	return sources
}

// askers is the instructions from which one of some Backs is reached with the slot unchanged, those Backs too.
func askers(p code.Program, sources [][]int, slot int, backs []int) []int {
	found := slices.Clone(backs)
	seen := make([]bool, len(p.Insts))
	for _, back := range backs {
		seen[back] = true
	}
	for i := 0; i < len(found); i++ {
		for _, from := range sources[found[i]] {
			sets := p.Insts[from].Op == code.Save && p.Insts[from].X == slot
			if !seen[from] && !sets {
				seen[from] = true
				found = append(found, from)
			}
		}
	}
	return found
}
