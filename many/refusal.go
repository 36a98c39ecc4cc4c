package many

import (
	"strconv"

	"heron/api"
)

// refusal is why there is no set: which pattern is wrong (-1: none by itself), and what is wrong with it.
type refusal struct {
	which int
	err   error
}

// refusalOfAll is for what is wrong with all patterns together.
func refusalOfAll(errno api.Errno) refusal {
	return refusal{which: -1, err: api.Fault{Code: errno, At: -1}}
}

// Error tells a refusal in words.
func (r refusal) Error() string { return "pattern " + strconv.Itoa(r.which) + ": " + r.err.Error() }

// Unwrap is the error that is, or wraps, the fault.
func (r refusal) Unwrap() error { return r.err }
