// Package runes is layer 1: bytes as runes, classes of runes: see shared/doc/01-runes.md.
package runes

import "heron/api"

// What stands for a byte that begins no rune's bytes.
const broken = 0xFFFD

// The gap: the numbers from the first to the last one, which bytes never are.
const (
	gapFirst = 0xD800
	gapLast  = 0xDFFF
)

// A byte behind the first one: its fixed bits, those that are the rune's, and how many these are.
const (
	moreMark = 0x80
	moreMask = 0x3F
	moreBits = 6
)

// form is what the bytes of a rune look like that has a certain number of them.
type form struct {
	mark  int // the fixed bits of the first byte
	mask  int // the bits of the first byte that are the rune's
	least int // below it a rune has fewer bytes
}

// forms stand by the number of bytes; no rune has none, so that row is nobody's.
var forms = [5]form{
	{},
	{mark: 0x00, mask: 0x7F, least: 0},
	{mark: 0xC0, mask: 0x1F, least: 0x80},
	{mark: 0xE0, mask: 0x0F, least: 0x800},
	{mark: 0xF0, mask: 0x07, least: 0x10000},
}

// sizes tells by the five topmost bits of a byte how many bytes a rune has that begins with it; 0: it begins none.
var sizes = [32]int{
	1, 1, 1, 1, 1, 1, 1, 1, 1, 1, 1, 1, 1, 1, 1, 1,
	0, 0, 0, 0, 0, 0, 0, 0,
	2, 2, 2, 2,
	3, 3,
	4,
	0,
}

// Decode tells the rune at the head of bytes, and how many of them it has.
func Decode(b []byte) (int, int) {
	if len(b) == 0 {
		return 0, 0
	}
	size := sizes[b[0]>>3]
	if size == 0 || size > len(b) {
		return broken, 1
	}
	r := int(b[0]) & forms[size].mask
	for _, more := range b[1:size] {
		if int(more)&^moreMask != moreMark {
			return broken, 1
		}
		r = r<<moreBits | int(more)&moreMask
	}
	// A longer form than the rune needs is not the rune's.
	if r < forms[size].least || !inDomain(r) {
		return broken, 1
	}
	return r, size
}

// Cut tells all runes of bytes, and where each place between them lies.
func Cut(b []byte) ([]int, []int) {
	list := make([]int, 0, len(b))
	places := make([]int, 0, len(b)+1)
	for at := 0; at < len(b); {
		r, size := Decode(b[at:])
		list = append(list, r)
		places = append(places, at)
		at += size
	}
	return list, append(places, len(b))
}

// Encode makes bytes of runes.
func Encode(l []int) ([]byte, api.Errno) {
	if len(l) > api.MaxText {
		return nil, api.ErrLong
	}
	out := make([]byte, 0, len(l))
	for _, r := range l {
		if !inDomain(r) {
			return nil, api.ErrRunesRange
		}
		out = appendRune(out, r)
	}
	return out, api.OK
}

// appendRune puts the bytes of a rune of the domain behind others.
func appendRune(out []byte, r int) []byte {
	size := 1
	for size+1 < len(forms) && r >= forms[size+1].least {
		size++
	}
	shift := moreBits * (size - 1)
	out = append(out, byte(forms[size].mark|r>>shift))
	for shift > 0 {
		shift -= moreBits
		out = append(out, byte(moreMark|r>>shift&moreMask))
	}
	return out
}

// Word tells whether a rune is one of a word.
func Word(r int) bool {
	// A greater number would wrap round as a rune, perhaps into a letter.
	if !inDomain(r) {
		return false
	}
	switch c := rune(r); {
	case 'a' <= c && c <= 'z', 'A' <= c && c <= 'Z', '0' <= c && c <= '9':
		return true
	default:
		return c == '_'
	}
}

// inDomain tells whether a number is a rune of the domain.
func inDomain(r int) bool {
	return 0 <= r && r < gapFirst || gapLast < r && r <= api.MaxRune
}
