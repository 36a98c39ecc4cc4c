package regex

import (
	"heron/api"
	"heron/dfa"
	"heron/mirror"
)

// byAutomaton searches by automatons: one tells where the find ends, another one, in the text read backward, where it begins. They are the question's own, so that who asks at the same time need not wait, and nothing is kept of it.
type byAutomaton struct {
	q     *question
	ahead *dfa.DFA

	// Made when it is asked for the first time where a find begins.
	behind   *dfa.DFA
	backward []int
}

func newAutomaton(q *question) engine {
	return &byAutomaton{q: q, ahead: automaton(q.program, false)}
}

// automaton is that of a program that was compiled, which none refuses.
func automaton(p api.Program, longest bool) *dfa.DFA {
	d, _ := dfa.New(p, api.MaxStates, longest)
	return d
}

func (e *byAutomaton) find(at int) (api.Found, api.Errno) {
	end, found, errno := e.ahead.End(e.q.text, at, len(e.q.text), e.q.anchored)
	if isWrong(errno) || !found {
		return api.Found{}, errno
	}
	if e.q.wanted == 0 {
		return api.Found{Ok: true}, api.OK
	}
	return e.q.known(e.begin(at, end), end)
}

// begin is where the find from a place on begins that ends at another one. (Both are places: so nothing is refused.)
func (e *byAutomaton) begin(at, end int) int {
	if at == end || e.q.anchored {
		return at
	}
	if e.behind == nil {
		e.behind, e.backward = automaton(e.q.backward(), true), mirror.Back(e.q.text)
	}
	last := len(e.backward)
	begin, _, _ := e.behind.End(e.backward, last-end, last-at, true)
	return last - begin
}
