package runes

import (
	"cmp"
	"slices"

	"heron/api"
)

// How far a small letter lies behind its great one.
const caseStep = 'a' - 'A'

// Right tells whether ranges are a class.
func Right(l []api.Range) bool {
	if len(l) > api.MaxRanges {
		return false
	}
	least := 0
	for _, g := range l {
		if g.Lo < least || g.Lo > g.Hi || !inDomain(g.Lo) || !inDomain(g.Hi) || overGap(g) {
			return false
		}
		least = g.Hi + 2
	}
	return true
}

// overGap tells whether a range begins ahead of the gap and ends behind it.
func overGap(g api.Range) bool { return g.Lo < gapFirst && g.Hi > gapLast }

// Has tells whether a rune is in a class.
func Has(l []api.Range, r int) bool {
	if !Right(l) {
		return false
	}
	// Ranges of a class rise, so the first one that does not end ahead of the rune decides.
	i, _ := slices.BinarySearchFunc(l, r, func(g api.Range, r int) int { return cmp.Compare(g.Hi, r) })
	return i < len(l) && l[i].Lo <= r
}

// Norm is the class of any ranges.
func Norm(l []api.Range) ([]api.Range, api.Errno) {
	for _, g := range l {
		if g.Lo < 0 || g.Lo > g.Hi || g.Hi > api.MaxRune {
			return nil, api.ErrRunesRange
		}
	}
	return gather(l)
}

// Union is the class of what is in one of two.
func Union(a, b []api.Range) ([]api.Range, api.Errno) {
	if !Right(a) || !Right(b) {
		return nil, api.ErrRunesRange
	}
	return gather(a, b)
}

// Negate is the class of what is not in one.
func Negate(l []api.Range) ([]api.Range, api.Errno) {
	if !Right(l) {
		return nil, api.ErrRunesRange
	}
	out := make([]api.Range, 0, len(l)+1)
	next := 0
	for _, g := range l {
		if next < g.Lo {
			out = append(out, api.Range{Lo: next, Hi: g.Lo - 1})
		}
		next = g.Hi + 1
	}
	if next <= api.MaxRune {
		out = append(out, api.Range{Lo: next, Hi: api.MaxRune})
	}
	return gather(out)
}

// Fold is a class with each letter's other case.
func Fold(l []api.Range) ([]api.Range, api.Errno) {
	if !Right(l) {
		return nil, api.ErrRunesRange
	}
	var others []api.Range
	for _, g := range l {
		others = appendMoved(others, g, api.Range{Lo: 'A', Hi: 'Z'}, caseStep)
		others = appendMoved(others, g, api.Range{Lo: 'a', Hi: 'z'}, -caseStep)
	}
	return gather(l, others)
}

// appendMoved puts what a range has of some letters behind others, moved by a step.
func appendMoved(out []api.Range, g, letters api.Range, step int) []api.Range {
	lo, hi := max(g.Lo, letters.Lo), min(g.Hi, letters.Hi)
	if lo > hi {
		return out
	}
	return append(out, api.Range{Lo: lo + step, Hi: hi + step})
}

// gather is the class of all ranges of some lists; each lies within 0 and MaxRune.
func gather(lists ...[]api.Range) ([]api.Range, api.Errno) {
	var parts []api.Range
	for _, l := range lists {
		for _, g := range l {
			parts = appendParts(parts, g)
		}
	}
	slices.SortFunc(parts, func(a, b api.Range) int { return cmp.Compare(a.Lo, b.Lo) })
	out := merge(parts)
	if len(out) > api.MaxRanges {
		return nil, api.ErrBig
	}
	return out, api.OK
}

// appendParts puts what a range has of the domain behind others: one range on each side of the gap at most.
func appendParts(out []api.Range, g api.Range) []api.Range {
	if g.Lo < gapFirst {
		out = append(out, api.Range{Lo: g.Lo, Hi: min(g.Hi, gapFirst-1)})
	}
	if g.Hi > gapLast {
		out = append(out, api.Range{Lo: max(g.Lo, gapLast+1), Hi: g.Hi})
	}
	return out
}

// merge makes one of sorted ranges that overlap or touch; those on both sides of the gap never do.
func merge(parts []api.Range) []api.Range {
	var out []api.Range
	for _, g := range parts {
		last := len(out) - 1
		if last >= 0 && g.Lo <= out[last].Hi+1 {
			out[last].Hi = max(out[last].Hi, g.Hi)
			continue
		}
		out = append(out, g)
	}
	return out
}
