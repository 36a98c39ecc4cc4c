package regex

import (
	"heron/api"
	"heron/bitstate"
	"heron/onepass"
	"heron/pike"
)

// byPike searches in lock step.
type byPike struct{ q *question }

func newPike(q *question) engine { return byPike{q} }

func (e byPike) find(at int) (api.Found, api.Errno) {
	return pike.Run(e.q.program, e.q.text, at, e.q.anchored)
}

// byBitstate searches depth first, with a map.
type byBitstate struct{ q *question }

func newBitstate(q *question) engine { return byBitstate{q} }

func (e byBitstate) find(at int) (api.Found, api.Errno) {
	return bitstate.Run(e.q.program, e.q.text, at, e.q.anchored)
}

// byOnepass searches with one thread, at one place alone: a pattern that has one way is anchored.
type byOnepass struct{ q *question }

func newOnepass(q *question) engine { return byOnepass{q} }

func (e byOnepass) find(at int) (api.Found, api.Errno) {
	return onepass.Run(e.q.program, e.q.text, at)
}
