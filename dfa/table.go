package dfa

// What a state and a stretch weigh, in bytes, roughly, and how much all may weigh together: a few states of a long program, or of many runes, are more than many others.
const (
	stateWeight   = 1200
	stretchWeight = 32
	maxWeight     = 1 << 26
)

// table has the states that are not forgotten, by their contents and by their numbers.
type table struct {
	limit   int
	numbers map[content]int32
	states  []state
	weight  int
}

// newTable is an empty one, of at most so many states.
func newTable(limit int) table { return table{limit: limit, numbers: map[content]int32{}} }

// find is the number of the state of a content; false: there is none.
func (t *table) find(b []byte) (int32, bool) {
	number, is := t.numbers[content(b)]
	return number, is
}

// add puts in a state, and tells its number. There must be room.
func (t *table) add(c content) int32 {
	number := int32(len(t.states))
	t.states = append(t.states, state{content: c})
	t.numbers[c] = number
	t.weight += stateWeight + len(c)
	return number
}

// isFull tells whether there is no room for one more state.
func (t *table) isFull() bool { return len(t.states) == t.limit }

// isHeavy tells whether what is there weighs too much.
func (t *table) isHeavy() bool { return t.weight > maxWeight }

// forget has the table without states.
func (t *table) forget() {
	clear(t.numbers)
	clear(t.states)
	t.states, t.weight = t.states[:0], 0
}

// forgetOthers has it without states but one, whose edges are forgotten, too, for they lead to others; it tells that one's number from then on.
func (t *table) forgetOthers(but int32) int32 {
	c := t.states[but].content
	t.forget()
	return t.add(c)
}
