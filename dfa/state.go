package dfa

import (
	"cmp"
	"slices"
)

// So many runes, from 0 on, have a slot of their own in each state. The runes that assertions tell apart, 10 and those of words, are among them: of all others, nothing counts but which classes have them.
const nearRunes = 128

// Behind their slots are those for the end of what may be walked, one for each kind of rune behind it.
const slots = nearRunes + kinds

// nowhere is the number of no state.
const nowhere = -1

// edge is how a state is left: with a Match on the way, or without, and to which state.
type edge struct {
	next          int32
	made, matched bool
}

// stretch is runes that have no slots, and the edge that they have in common.
type stretch struct {
	lo, hi int
	edge   edge
}

// state is one, and its edges as far as they are made.
type state struct {
	content content
	near    [slots]edge
	far     []stretch // sorted, apart from one another
}

// farEdge is the edge for a rune that has no slot; one that is not made, if there is none.
func (s *state) farEdge(r int) edge {
	if k := s.search(r); k < len(s.far) && s.far[k].lo <= r {
		return s.far[k].edge
	}
	return edge{}
}

// putFar puts in the edge of a stretch.
func (s *state) putFar(l stretch) { s.far = slices.Insert(s.far, s.search(l.lo), l) }

// search is how many stretches end ahead of a rune.
func (s *state) search(r int) int {
	k, _ := slices.BinarySearchFunc(s.far, r, func(l stretch, r int) int { return cmp.Compare(l.hi, r) })
	return k
}
