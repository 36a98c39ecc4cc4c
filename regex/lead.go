package regex

import "heron/api"

// byLead searches for the runes with which every match begins, and leaves what they don't tell to another engine, from there on.
type byLead struct {
	q    *question
	then engine
}

// led is an engine with the lead's search ahead of it, if the pattern has a lead.
func (q *question) led(then engine) engine {
	if q.lead == nil {
		return then
	}
	return byLead{q, then}
}

func (e byLead) find(at int) (api.Found, api.Errno) {
	begin := e.q.lead.Next(e.q.text, at)
	if begin < 0 {
		return api.Found{}, api.OK
	}
	if e.q.leadIsAll {
		return e.q.known(begin, begin+e.q.leadLen)
	}
	return e.then.find(begin)
}
