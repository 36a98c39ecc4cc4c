package shell

import (
	"heron/api"
	"heron/many"
	"heron/regex"
	"heron/replace"
)

// What each command does and tells. What it needs of its line has been read; with an error it has told and given nothing, and the error is told in its place.

// pattern has a fault of its own to tell, with its place: to the line that is no error.
func (s *session) pattern(q *request) api.Errno {
	r, err := regex.Compile(q.rest)
	if err != nil {
		fault, _ := api.Seen(err)
		s.tellFault(fault)
		return api.OK
	}
	s.patterns[q.name] = r
	s.tell("ok")
	return api.OK
}

func (s *session) text(q *request) api.Errno {
	s.texts[q.name] = q.content
	s.tell("ok")
	return api.OK
}

func (s *session) engine(q *request) api.Errno {
	r, errno := q.pattern.With(q.number)
	if errno != api.OK {
		return errno
	}
	s.patterns[q.name] = r
	s.tell("ok")
	return api.OK
}

func (s *session) groups(q *request) api.Errno {
	s.tellNumber(q.pattern.Groups())
	for _, name := range q.pattern.Names() {
		if name == "" {
			name = "-"
		}
		s.tell(name)
	}
	return api.OK
}

func (s *session) match(q *request) api.Errno {
	fits, errno := q.pattern.Match(q.content)
	if errno != api.OK {
		return errno
	}
	if fits {
		s.tell("yes")
	} else {
		s.tell("no")
	}
	return api.OK
}

func (s *session) find(q *request) api.Errno {
	offsets, errno := q.pattern.Find(q.content)
	if errno != api.OK {
		return errno
	}
	s.tellNumbers(offsets)
	return api.OK
}

func (s *session) submatch(q *request) api.Errno {
	offsets, errno := q.pattern.Submatch(q.content)
	if errno != api.OK {
		return errno
	}
	s.tellNumbers(offsets)
	return api.OK
}

func (s *session) all(q *request) api.Errno {
	items, errno := q.pattern.All(q.content, q.number)
	if errno != api.OK {
		return errno
	}
	s.tellItems(items)
	return api.OK
}

func (s *session) replace(q *request) api.Errno {
	b, errno := replace.All(q.pattern, q.content, q.rest)
	if errno != api.OK {
		return errno
	}
	s.tellQuoted(b)
	return api.OK
}

func (s *session) split(q *request) api.Errno {
	pieces, errno := replace.Split(q.pattern, q.content, q.number)
	if errno != api.OK {
		return errno
	}
	s.tellNumber(len(pieces))
	for _, piece := range pieces {
		s.tellQuoted(piece)
	}
	return api.OK
}

func (s *session) which(q *request) api.Errno {
	set, errno := setOf(q.set)
	if errno != api.OK {
		return errno
	}
	numbers, errno := set.Matches(q.content)
	if errno != api.OK {
		return errno
	}
	s.tellNumbers(numbers)
	return api.OK
}

func (s *session) first(q *request) api.Errno {
	set, errno := setOf(q.set)
	if errno != api.OK {
		return errno
	}
	number, offsets, errno := set.First(q.content)
	if errno != api.OK {
		return errno
	}
	if number >= 0 {
		s.tellNumber(number)
	}
	s.tellNumbers(offsets)
	return api.OK
}

// setOf is the set of patterns. It is made of what they were made of: by which engines they are searched for otherwise, does not count.
func setOf(patterns []*regex.Regex) (*many.Many, api.Errno) {
	var l []string
	for _, r := range patterns {
		l = append(l, r.Pattern())
	}
	set, _, err := many.Compile(l)
	fault, _ := api.Seen(err)
	return set, fault.Code
}
