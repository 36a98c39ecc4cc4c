package dfa

import "heron/look"

// search is a question that is being answered: what is handed in stands here, and goes with it.
type search struct {
	table *table
	walk  *walk
	text  []int
	last  int
}

// run goes from state to state, one rune each, from at on, till nothing better can be found.
func (s *search) run(at int, anchored bool) (int, bool) {
	end, found := 0, false
	state := s.begin(at, anchored)
	for place := at; ; place++ {
		e := s.leave(state, place)
		if e.matched {
			end, found = place, true
		}
		if e.next == nowhere {
			return end, found
		}
		state = e.next
	}
}

// begin is the state of a search that comes to its first place.
func (s *search) begin(at int, anchored bool) int32 {
	s.walk.begin(anchored)
	b := s.walk.content(s.walk.p.kindAhead(s.text, at), !anchored)
	if number, is := s.table.find(b); is {
		return number
	}
	if s.table.isFull() {
		s.table.forget()
	}
	return s.table.add(content(b))
}

// leave is the edge by which a state is left at a place.
func (s *search) leave(from int32, place int) edge {
	state := &s.table.states[from]
	var e edge
	if slot, has := s.slot(place); has {
		e = state.near[slot]
	} else {
		e = state.farEdge(s.text[place])
	}
	if e.made {
		return e
	}
	return s.newEdge(from, place)
}

// slot is that of the edges by which states are left at a place; false: these have none.
func (s *search) slot(place int) (int, bool) {
	if place == s.last {
		return nearRunes + kindAt(s.text, place), true
	}
	r := s.text[place]
	return r, 0 <= r && r < nearRunes
}

// newEdge is the edge by which a state is left at a place, made by a walk through the program there.
func (s *search) newEdge(from int32, place int) edge {
	if s.table.isHeavy() {
		from = s.table.forgetOthers(from)
	}
	c := s.table.states[from].content
	s.walk.enter(look.At(s.text, place))
	if place < s.last {
		s.walk.take(s.text[place])
	}
	s.walk.run(c)
	e := edge{made: true, matched: s.walk.matched, next: nowhere}
	if begins := c.begins() && !e.matched && place < s.last; begins || len(s.walk.row) > 0 {
		from, e.next = s.next(from, s.walk.content(s.walk.p.kindAhead(s.text, place+1), begins))
	}
	s.put(from, place, e)
	return e
}

// next is the state of a content, made if there is none yet, and the one that is left for it, which can have another number behind that.
func (s *search) next(from int32, b []byte) (int32, int32) {
	if number, is := s.table.find(b); is {
		return from, number
	}
	if s.table.isFull() {
		from = s.table.forgetOthers(from)
	}
	return from, s.table.add(content(b))
}

// put has an edge as the one by which a state is left with what is at a place.
func (s *search) put(from int32, place int, e edge) {
	state := &s.table.states[from]
	if slot, has := s.slot(place); has {
		state.near[slot] = e
		return
	}
	state.putFar(stretch{lo: s.walk.lo, hi: s.walk.hi, edge: e})
	s.table.weight += stretchWeight
}
