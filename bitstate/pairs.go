package bitstate

import "heron/api"

// How many pairs one word of the map tells of.
const wordBits = 64

// pairs is the map: the pairs of an instruction and a place that were met, a bit each.
type pairs struct {
	insts int // how many instructions there are
	first int // the least place
	// Those of one place stand side by side, place by place, and there are no more words than up to the last place that was come to: a run that ends early in a long text needs but few.
	words []uint64
}

// isTooBig tells whether the map of so many instructions and places would be. (Their product can be more than a small machine's numbers hold.)
func isTooBig(insts, places int) bool { return places > api.MaxMap/insts }

// add puts a pair in, and tells whether it is new.
func (s *pairs) add(inst, place int) bool {
	number := (place-s.first)*s.insts + inst
	word, bit := number/wordBits, uint64(1)<<(number%wordBits)
	s.reach(word)
	if s.words[word]&bit != 0 {
		return false
	}
	s.words[word] |= bit
	return true
}

// reach has words up to that one.
func (s *pairs) reach(word int) {
	if missing := word + 1 - len(s.words); missing > 0 {
		s.words = append(s.words, make([]uint64, missing)...)
	}
}
