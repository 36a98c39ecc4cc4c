package shell

import "heron/api"

// part is what reads one part of a line; false: it is not there, or is none.
type part func(q *request) bool

// command is what a line's first word asks for: what must stand behind it, no more and no less, and what is done then.
type command struct {
	parts []part
	do    func(s *session, q *request) api.Errno
}

// commands are all of them, by their words.
func commands() map[string]command {
	return map[string]command{
		"pattern":  {[]part{(*request).readName, (*request).readRest}, (*session).pattern},
		"text":     {[]part{(*request).readName, (*request).readQuoted}, (*session).text},
		"engine":   {[]part{(*request).readPattern, (*request).readNumber}, (*session).engine},
		"groups":   {[]part{(*request).readPattern}, (*session).groups},
		"match":    {[]part{(*request).readPattern, (*request).readText}, (*session).match},
		"find":     {[]part{(*request).readPattern, (*request).readText}, (*session).find},
		"submatch": {[]part{(*request).readPattern, (*request).readText}, (*session).submatch},
		"all":      {[]part{(*request).readPattern, (*request).readText, (*request).readNumber}, (*session).all},
		"replace":  {[]part{(*request).readPattern, (*request).readText, (*request).readRest}, (*session).replace},
		"split":    {[]part{(*request).readPattern, (*request).readText, (*request).readNumber}, (*session).split},
		"which":    {[]part{(*request).readText, (*request).readSet}, (*session).which},
		"first":    {[]part{(*request).readText, (*request).readSet}, (*session).first},
	}
}
