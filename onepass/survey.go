package onepass

import (
	"maps"
	"slices"

	"heron/api"
	"heron/sparse"
)

// survey goes through the closures of a program's reached instructions. Of each one only that part is gone through which is not known yet: else a loop that many instructions lead back to would be gone through for each of them.
type survey struct {
	left  map[int]struct{} // what is reached and still to be looked at
	plain *sparse.Set      // what has a plain closure: with an instruction all that is in its closure, as the closure of each of those is a part of it

	near  closure // what is being looked at, up to its doors: where it comes to what is known to be plain
	far   closure // what is behind the doors that were opened last, kept as many instructions lead to the same ones
	doors []int   // these doors
}

// hasOneWay tells whether the closures of all reached instructions of a program that may be are plain.
func hasOneWay(p api.Program) bool {
	s := &survey{left: make(map[int]struct{}), plain: sparse.New(len(p.Insts)), near: newClosure(p.Insts), far: newClosure(p.Insts)}
	s.reach(p.Start)
	for len(s.left) > 0 {
		// Sorted, so that not even the time hangs on the map's order.
		round := slices.Sorted(maps.Keys(s.left))
		for _, inst := range round {
			if !s.look(inst) {
				return false
			}
		}
	}
	return true
}

// reach has an instruction looked at, if its closure is not known to be plain.
func (s *survey) reach(inst int) {
	if !s.plain.Has(inst) {
		s.left[inst] = struct{}{}
	}
}

// look tells whether the closure of an instruction is plain; if so, this is known from then on, and what its OpRunes lead to is reached.
func (s *survey) look(inst int) bool {
	if !s.isPlain(inst) {
		return false
	}
	for _, i := range s.near.met.List() {
		s.plain.Add(i)
		delete(s.left, i)
	}
	for _, reader := range s.near.readers {
		s.reach(reader.X)
	}
	return true
}

// isPlain tells whether the closure of an instruction is. What is ahead of its doors is never behind them, where all is known: so both can be gone through by themselves.
func (s *survey) isPlain(inst int) bool {
	if !s.near.gather([]int{inst}, s.plain) {
		return false
	}
	switch doors := s.near.doors; len(doors) {
	case 0:
		return true
	case 1:
		if s.near.isBlank() || s.goesWithMore(doors[0]) {
			return true
		}
	}
	return s.open(s.near.doors) && s.near.goesWith(&s.far)
}

// goesWithMore tells whether what is behind a door was opened last, maybe with more, and what is being looked at is plain together even with all of that. So what follows on a long row of options is not opened anew at each of them.
func (s *survey) goesWithMore(door int) bool {
	return s.far.met.Has(door) && s.near.goesWith(&s.far)
}

// open goes through what is behind doors, and tells whether it is plain together.
func (s *survey) open(doors []int) bool {
	if slices.Equal(doors, s.doors) {
		return true
	}
	s.doors = append(s.doors[:0], doors...)
	return s.far.gather(doors, sparse.New(0))
}
