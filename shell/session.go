package shell

import (
	"heron/api"
	"heron/regex"
)

// names are what was given one: patterns' and texts' are apart.
type names struct {
	patterns map[string]*regex.Regex
	texts    map[string][]byte
}

// session is a text while it is carried out: what was given a name so far, and what was told.
type session struct {
	names
	answer
	commands map[string]command
}

func newSession() *session {
	given := names{patterns: map[string]*regex.Regex{}, texts: map[string][]byte{}}
	return &session{names: given, commands: commands()}
}

// carryOut does what a line asks for, if it asks for anything.
func (s *session) carryOut(line string) {
	words, fine := wordsOf(line)
	if fine && asksNothing(words) {
		return
	}
	errno := api.ErrShell
	if fine {
		errno = s.obey(words)
	}
	if errno != api.OK {
		s.tellError(errno)
	}
	s.end()
}

// obey carries out a line that has words; with an error, nothing has been told or given.
func (s *session) obey(words []word) api.Errno {
	c, is := s.commands[words[0].text]
	if !is {
		return api.ErrShell
	}
	q := &request{names: s.names, last: words[0], left: words[1:]}
	if !q.read(c.parts) {
		return api.ErrShell
	}
	return c.do(s, q)
}
