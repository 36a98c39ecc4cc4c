package syntax

import (
	"heron/api"
	"heron/runes"
)

// The bytes that don't stand for themselves within a class.
const notOne = `\[]^-`

// How many digits the number of a rune has at most, between its brackets.
const runeDigits = 6

// only is the class of one rune.
func only(code int) []api.Range { return []api.Range{{Lo: code, Hi: code}} }

// class takes a class, from its bracket on.
func (r *reader) class() api.Node {
	at := r.at
	r.must('[')
	negated := r.took('^')
	all := r.item()
	for !r.took(']') {
		all = append(all, r.item()...)
	}
	ranges, errno := runes.Norm(all)
	if errno == api.OK && negated {
		ranges, errno = runes.Negate(ranges)
	}
	if errno != api.OK {
		r.note(api.ErrBig, at)
	}
	return api.Node{Kind: api.NodeClass, Ranges: ranges}
}

// item takes an item of a class, and is its runes, about case; none, if something is wrong with it. (Each item is folded by itself: all of them may have too many ranges for a class, though folded they have fewer.)
func (r *reader) item() []api.Range {
	if set := setOf(r.escaped()); set != nil {
		r.at += 2
		return r.aboutCase(set)
	}
	at := r.at
	lo, right := r.one()
	hi := lo
	if r.took('-') {
		var also bool
		hi, also = r.one()
		right = right && also
	}
	if !right {
		return nil
	}
	if hi < lo {
		r.note(api.ErrSyntaxRange, at)
		return nil
	}
	// A range over the surrogates is two ones of a class.
	ranges, _ := runes.Norm([]api.Range{{Lo: lo, Hi: hi}})
	return r.aboutCase(ranges)
}

// one takes a rune of an item, and tells whether it is one.
func (r *reader) one() (int, bool) {
	if r.sees('\\', '\\') {
		return r.single()
	}
	return r.runeBut(notOne), true
}

// aboutCase is a class with each letter's other case, where the flag for it holds.
func (r *reader) aboutCase(class []api.Range) []api.Range {
	if !r.top().fold {
		return class
	}
	folded, _ := runes.Fold(class)
	return folded
}

// escaped is the byte behind a backslash that stands next; 0, which no backslash goes with, if there is none.
func (r *reader) escaped() byte {
	if !r.sees('\\', '\\') || r.at+1 == len(r.text) {
		return 0
	}
	return r.text[r.at+1]
}

// single takes a backslash and what stands for one rune behind it: that rune, and whether it is one.
func (r *reader) single() (int, bool) {
	at := r.at
	r.must('\\')
	switch {
	case r.took('x'):
		return r.hexRune(at)
	case r.took('n'):
		return 10, true
	case r.took('t'):
		return 9, true
	case r.took('r'):
		return 13, true
	case r.took('f'):
		return 12, true
	case r.took('v'):
		return 11, true
	case r.took('a'):
		return 7, true
	}
	if r.seesWord() && !r.sees('_', '_') {
		r.giveUp()
	}
	return int(r.take(33, 126)), true
}

// hexRune takes the number of a rune whose backslash stands at a place, and tells whether it is one's.
func (r *reader) hexRune(at int) (int, bool) {
	if !r.took('{') {
		high := r.hexDigit()
		return high<<4 | r.hexDigit(), true
	}
	begin, code := r.at, 0
	for r.at == begin || !r.sees('}', '}') && r.at-begin < runeDigits {
		code = code<<4 | r.hexDigit()
	}
	r.must('}')
	if !runes.Right(only(code)) {
		r.note(api.ErrSyntaxRune, at)
		return 0, false
	}
	return code, true
}

// hexDigit takes a digit to the base 16.
func (r *reader) hexDigit() int {
	switch {
	case r.sees('a', 'f'):
		return int(r.take('a', 'f')-'a') + 10
	case r.sees('A', 'F'):
		return int(r.take('A', 'F')-'A') + 10
	}
	return int(r.take('0', '9') - '0')
}

// setOf is the class that a letter is behind a backslash; nil: none.
func setOf(letter byte) []api.Range {
	switch letter {
	case 'd':
		return []api.Range{{Lo: '0', Hi: '9'}}
	case 's':
		return []api.Range{{Lo: 9, Hi: 13}, {Lo: 32, Hi: 32}}
	case 'w':
		return []api.Range{{Lo: '0', Hi: '9'}, {Lo: 'A', Hi: 'Z'}, {Lo: '_', Hi: '_'}, {Lo: 'a', Hi: 'z'}}
	case 'D', 'S', 'W':
		others, _ := runes.Negate(setOf(letter - 'A' + 'a'))
		return others
	}
	return nil
}
