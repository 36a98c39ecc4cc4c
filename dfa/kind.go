package dfa

import (
	"heron/api"
	"heron/runes"
)

// The kinds of runes beside a place, as far as assertions tell them apart.
const (
	noRune = iota
	lineEnd
	wordRune
	otherRune
	kinds
)

// kindAt is the kind of a text's rune.
func kindAt(text []int, i int) int {
	switch {
	case i < 0 || i >= len(text):
		return noRune
	case text[i] == 10:
		return lineEnd
	case runes.Word(text[i]):
		return wordRune
	}
	return otherRune
}

// kindAhead is the kind of the rune ahead of a place, as far as a program asks for it: what none of its assertions asks for must not make two states of one.
func (p *program) kindAhead(text []int, place int) int {
	kind := kindAt(text, place-1)
	asking := 0
	switch kind {
	case noRune:
		asking = api.BeginText | api.BeginLine
	case lineEnd:
		asking = api.BeginLine
	case wordRune:
		asking = api.WordEdge | api.NoWordEdge
	}
	if p.asked&asking == 0 {
		return otherRune
	}
	return kind
}
