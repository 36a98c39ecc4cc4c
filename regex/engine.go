package regex

import (
	"slices"

	"heron/api"
)

// engine searches the text of a question for its pattern.
type engine interface {
	// find is the find from a place on; its captures are those that the question asks for, or more.
	find(at int) (api.Found, api.Errno)
}

// The engines' numbers.
const (
	anyEngine = iota
	pikeEngine
	bitstateEngine
	onepassEngine
	automatonEngine
	engines // how many there are
)

// choice is an engine that can be chosen: its number, for which questions it is the best, and how it is made ready for one.
type choice struct {
	number int
	suits  func(q *question) bool
	ready  func(q *question) engine
}

// choices are all of them, in the order in which they come where any may be taken. The last one suits every question.
func choices() []choice {
	return []choice{
		{bitstateEngine, (*question).isSmall, newBitstate},
		{automatonEngine, (*question).isForAutomaton, newAutomaton},
		{onepassEngine, (*question).isOneWay, newOnepass},
		{pikeEngine, (*question).isAny, newPike},
	}
}

// engine is that of a number, ready for the question.
func (q *question) engine(number int) engine {
	rows := choices()
	if number == anyEngine {
		best := slices.IndexFunc(rows, func(c choice) bool { return c.suits(q) })
		return q.led(rows[best].ready(q))
	}
	which := slices.IndexFunc(rows, func(c choice) bool { return c.number == number })
	return rows[which].ready(q)
}
