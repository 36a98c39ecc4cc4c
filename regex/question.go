package regex

import (
	"heron/api"
	"heron/pike"
	"heron/runes"
)

// So many pairs of an instruction and a place are few: to go through them with a map takes less time than to make an automaton, and not much even if each match of many asks for all of them.
const smallMap = 1 << 13

// question is what one call asks, and goes with it: a pattern, a text, and how much of what is found.
type question struct {
	*pattern
	text   []int
	places []int // the offsets of the text's places
	wanted int   // how many captures are asked for
}

// ask is the question for so many captures of what is found in bytes; ErrLong, if these are too many.
func (r *Regex) ask(b []byte, wanted int) (*question, api.Errno) {
	if len(b) > api.MaxText {
		return nil, api.ErrLong
	}
	text, places := runes.Cut(b)
	return &question{pattern: r.pattern, text: text, places: places, wanted: wanted}, api.OK
}

// offsets are as many of a find's captures as are asked for, as offsets.
func (q *question) offsets(caps []int) []int {
	offsets := make([]int, q.wanted)
	for i := range offsets {
		offsets[i] = -1
		if caps[i] >= 0 {
			offsets[i] = q.places[caps[i]]
		}
	}
	return offsets
}

// known is a find of which it is known where it begins and ends. Its groups, if they are asked for, are found from there.
func (q *question) known(begin, end int) (api.Found, api.Errno) {
	if q.asksForGroups() {
		return pike.Run(q.program, q.text, begin, true)
	}
	return api.Found{Ok: true, Caps: []int{begin, end}}, api.OK
}

// asksForGroups tells whether more is asked for than where a find begins and ends.
func (q *question) asksForGroups() bool { return q.wanted > 2 }

// isSmall tells whether there are few pairs of an instruction and a place. (All of them can be more than a small machine's numbers hold.)
func (q *question) isSmall() bool { return len(q.text)+1 <= smallMap/len(q.program.Insts) }

// isForAutomaton tells whether an automaton can find what is asked for, or at least where it begins. Where that is known and the groups are asked for, all would but be gone through once more.
func (q *question) isForAutomaton() bool { return !q.anchored || !q.asksForGroups() }

// isOneWay tells whether the pattern can be searched for with one thread.
func (q *question) isOneWay() bool { return q.oneWay }

// isAny is for the engine that can do all.
func (q *question) isAny() bool { return true }
