package dfa

import (
	"slices"

	"heron/api"
)

// step is an instruction in the automaton's own form: it leads past those that note a place or go on, for these change nothing of where a walk ends.
type step struct {
	op, x, y, arg int
	class         []api.Range
}

// program is one in the automaton's own form, of memory of its own.
type program struct {
	steps []step
	start int
	asked int // the sum of the assertions that stand in it
}

// newProgram is that of one that may be.
func newProgram(p api.Program) *program {
	past, known := pastPlain(p.Insts), classes{}
	own := &program{steps: make([]step, len(p.Insts)), start: past[p.Start]}
	for n, i := range p.Insts {
		own.steps[n] = step{op: i.Op, x: past[i.X], y: past[i.Y], arg: i.Arg, class: known.own(i.Ranges)}
		if i.Op == api.OpAssert {
			own.asked |= i.Arg
		}
	}
	return own
}

// isPlain tells whether an operation does nothing but note a place, or go on.
func isPlain(op int) bool { return op == api.OpCap || op == api.OpNop }

// pastPlain tells for each instruction the one to which it leads past plain ones: itself, if it is not plain. Of plain ones in a ring it is one of them, which is left a dead end.
func pastPlain(insts []api.Inst) []int {
	const unknown = -1
	past := make([]int, len(insts))
	for n, i := range insts {
		past[n] = n
		if isPlain(i.Op) {
			past[n] = unknown
		}
	}
	var way []int
	for n := range insts {
		at := n
		for way = way[:0]; past[at] == unknown; at = insts[at].X {
			past[at] = at
			way = append(way, at)
		}
		for _, w := range way {
			past[w] = past[at]
		}
	}
	return past
}

// classes are those of a program, by a sum of theirs, each of them once: thousands of instructions can have the same one, of thousands of ranges.
type classes map[uint64][][]api.Range

// own is the class in memory of the automaton's own.
func (c classes) own(class []api.Range) []api.Range {
	if len(class) == 0 {
		return nil
	}
	sum := sumOf(class)
	for _, known := range c[sum] {
		if slices.Equal(known, class) {
			return known
		}
	}
	own := slices.Clone(class)
	c[sum] = append(c[sum], own)
	return own
}

// sumOf is a number that few classes have in common.
func sumOf(class []api.Range) uint64 {
	const factor = 1099511628211
	sum := uint64(len(class))
	for _, g := range class {
		sum = (sum*factor+uint64(g.Lo))*factor + uint64(g.Hi)
	}
	return sum
}
