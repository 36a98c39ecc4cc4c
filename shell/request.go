package shell

import (
	"strconv"

	"heron/regex"
)

// The most digits of a number: what has more is none, be they noughts ahead.
const mostDigits = 9

// request is a line while it is read: the words that are left of it, and what has stood in it so far.
type request struct {
	names
	left []word
	last word // the one that was taken last

	name    string // of a pattern or text that is given one
	pattern *regex.Regex
	set     []*regex.Regex
	content []byte // of a text
	number  int
	rest    string
}

// read reads all of a line that has these parts; false: it is none of that form.
func (q *request) read(parts []part) bool {
	for _, reads := range parts {
		if !reads(q) {
			return false
		}
	}
	return len(q.left) == 0
}

// take takes the next word; false: there is none.
func (q *request) take() bool {
	if len(q.left) == 0 {
		return false
	}
	q.last, q.left = q.left[0], q.left[1:]
	return true
}

// readName reads a name, whether it was given or not.
func (q *request) readName() bool {
	if !q.take() {
		return false
	}
	q.name = q.last.text
	return true
}

// readPattern reads a pattern's name that was given.
func (q *request) readPattern() bool {
	if !q.readName() {
		return false
	}
	var given bool
	q.pattern, given = q.patterns[q.name]
	return given
}

// readSet reads all words that are left as such names: one or more.
func (q *request) readSet() bool {
	for q.readPattern() {
		q.set = append(q.set, q.pattern)
		if len(q.left) == 0 {
			return true
		}
	}
	return false
}

// readText reads a text's name that was given.
func (q *request) readText() bool {
	if !q.take() {
		return false
	}
	var given bool
	q.content, given = q.texts[q.last.text]
	return given
}

// readNumber reads a number.
func (q *request) readNumber() bool {
	if !q.take() {
		return false
	}
	var is bool
	q.number, is = numberOf(q.last.text)
	return is
}

// readRest reads what stands behind the word taken last, which is no matter of words any more.
func (q *request) readRest() bool {
	q.rest, q.left = q.last.rest, nil
	return true
}

// readQuoted reads the same as quoted bytes.
func (q *request) readQuoted() bool {
	q.readRest()
	var is bool
	q.content, is = unquoted(q.rest)
	return is
}

// numberOf is the number that a word is; false: it is none.
func numberOf(text string) (int, bool) {
	digits := text
	if digits[0] == '-' {
		digits = digits[1:]
	}
	if len(digits) < 1 || len(digits) > mostDigits {
		return 0, false
	}
	// Asked ahead, as Atoi takes a sign of its own: here it would be a second one, or a +.
	for _, r := range digits {
		if r < '0' || r > '9' {
			return 0, false
		}
	}
	n, _ := strconv.Atoi(text)
	return n, true
}
