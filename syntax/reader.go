package syntax

import (
	"errors"
	"strings"

	"heron/api"
	"heron/runes"
)

// The bytes of a rune behind its first one, where that asks for nothing else.
const (
	moreFirst = 0x80
	moreLast  = 0xBF
)

// reader goes through a pattern from the left, once, and never back: the first byte that it cannot take is the first one that cannot stand.
type reader struct {
	text   []byte
	at     int
	open   []level
	groups int // capture groups that have begun
	names  map[string]struct{}
	// What is wrong with a pattern that can stand: that is told at the end alone, as a byte that cannot stand goes ahead of it. Nil: nothing.
	wrong error
}

func newReader(p string) *reader {
	return &reader{text: []byte(p), open: []level{{}}, names: map[string]struct{}{}}
}

// giveUp leaves the reading: no pattern goes on with the byte that is next.
func (r *reader) giveUp() { panic(api.Fault{Code: api.ErrSyntax, At: r.at}) }

// note keeps a fault, if it goes ahead of the one that is kept.
func (r *reader) note(code api.Errno, at int) {
	var kept api.Fault
	if errors.As(r.wrong, &kept) && (kept.At < at || kept.At == at && kept.Code <= code) {
		return
	}
	r.wrong = api.Fault{Code: code, At: at}
}

// ended tells whether all bytes are taken.
func (r *reader) ended() bool { return r.at == len(r.text) }

// sees tells whether the next byte lies between two.
func (r *reader) sees(first, last byte) bool {
	return !r.ended() && first <= r.text[r.at] && r.text[r.at] <= last
}

// seesOneOf tells whether the next byte is one of some.
func (r *reader) seesOneOf(some string) bool {
	return !r.ended() && strings.IndexByte(some, r.text[r.at]) >= 0
}

// seesWord tells whether the next byte is a letter, a digit or _.
func (r *reader) seesWord() bool { return !r.ended() && runes.Word(int(r.text[r.at])) }

// take takes a byte that must lie between two.
func (r *reader) take(first, last byte) byte {
	if !r.sees(first, last) {
		r.giveUp()
	}
	r.at++
	return r.text[r.at-1]
}

// must takes a byte that must stand next.
func (r *reader) must(c byte) { r.take(c, c) }

// took takes a byte if it stands next, and tells whether it does.
func (r *reader) took(c byte) bool {
	if !r.sees(c, c) {
		return false
	}
	r.at++
	return true
}

// runeBut takes a rune that must be none of some of one byte.
func (r *reader) runeBut(some string) int {
	if r.seesOneOf(some) {
		r.giveUp()
	}
	start := r.at
	more, first, last := r.runeBegins()
	r.at++
	for range more {
		r.take(first, last)
		first, last = moreFirst, moreLast
	}
	code, _ := runes.Decode(r.text[start:r.at])
	return code
}

// runeBegins tells how many bytes the next rune has behind its first one, and between which two the second one lies: so no longer form and no surrogate is taken.
func (r *reader) runeBegins() (more int, first, last byte) {
	switch {
	case r.sees(0x00, 0x7F):
		return 0, 0, 0
	case r.sees(0xC2, 0xDF):
		return 1, moreFirst, moreLast
	case r.sees(0xE0, 0xE0):
		return 2, 0xA0, moreLast
	case r.sees(0xED, 0xED):
		return 2, moreFirst, 0x9F
	case r.sees(0xE1, 0xEF):
		return 2, moreFirst, moreLast
	case r.sees(0xF0, 0xF0):
		return 3, 0x90, moreLast
	case r.sees(0xF1, 0xF3):
		return 3, moreFirst, moreLast
	case r.sees(0xF4, 0xF4):
		return 3, moreFirst, 0x8F
	}
	r.giveUp()
	return 0, 0, 0
}
