package regex

import "heron/api"

// scan goes through a text from match to match.
type scan struct {
	by    engine
	last  int // the last place
	at    int // where it stands; behind the last place: it is over
	taken int // the end of the match taken last; -1: there is none
}

func newScan(by engine, last int) scan { return scan{by: by, last: last, taken: -1} }

// next takes a match, and is its find; one that is not Ok: there is none any more.
func (s *scan) next() (api.Found, api.Errno) {
	for s.at <= s.last {
		found, errno := s.by.find(s.at)
		if isWrong(errno) || !found.Ok {
			return api.Found{}, errno
		}
		if s.takes(found.Caps[0], found.Caps[1]) {
			return found, api.OK
		}
	}
	return api.Found{}, api.OK
}

// takes tells whether a find is taken, and stands behind it. From an empty one it goes one rune further: else it would come to it again.
func (s *scan) takes(begin, end int) bool {
	empty, abuts := begin == end, begin == s.taken
	s.at, s.taken = end, end
	if empty {
		s.at++
	}
	return !empty || !abuts
}
