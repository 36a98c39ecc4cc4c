package runes_test

import (
	"math"
	"slices"
	"testing"

	"heron/api"
	"heron/runes"
)

// set is ranges of pairs of numbers.
func set(l ...int) []api.Range {
	var out []api.Range
	for i := 0; i < len(l); i += 2 {
		out = append(out, api.Range{Lo: l[i], Hi: l[i+1]})
	}
	return out
}

// rowOf is n ranges of a rune each, from one on, each two behind the one ahead.
func rowOf(from, n int) []api.Range {
	var out []api.Range
	for i := range n {
		out = append(out, api.Range{Lo: from + 2*i, Hi: from + 2*i})
	}
	return out
}

// everything is the class of all runes of the domain.
var everything = set(0, 0xD7FF, 0xE000, 0x10FFFF)

// wrongClasses are ranges that are none, each for a reason of its own.
var wrongClasses = [][]api.Range{
	set(5, 3), set(0, 9, 10, 12), set(5, 6, 1, 2), set(1, 5, 3, 8), set(1, 5, 5, 8), set(1, 5, 1, 5),
	set(-1, 5), set(-5, -1), set(0, 0x110000), set(0x110000, 0x110000), set(0x10FFFF, 0x110000),
	set(0, 0x10FFFF), set(0xD7FF, 0xE000), set(0xD800, 0xD800), set(0xDFFF, 0xE000), set(0xD000, 0xD800), set(0xD800, 0xDFFF), set(0xDFFF, 0xDFFF),
	set(math.MinInt, math.MaxInt), set(0, math.MaxInt), set(math.MaxInt, math.MinInt), set(1, math.MaxInt, 3, 4), set('a', 'c', 0, 0),
	rowOf(0, api.MaxRanges+1),
}

// classes are some, edges among them.
var classes = [][]api.Range{
	nil, {}, set(0, 0), set(0, 9, 11, 12), set(0x10FFFF, 0x10FFFF), everything, set(0, 0xD7FF), set(0xE000, 0x10FFFF),
	set(0, 0xD7FF, 0xE000, 0xE001), set(0xD7FF, 0xD7FF, 0xE000, 0xE000), set(0xD700, 0xD7FE, 0xE001, 0xE001),
	set('0', '9'), set('Z', 'b'), set('A', 'Z'), set('a', 'z'), set('A', 'Z', 'a', 'z'), set('@', '['), set('`', '{'), set('m', 'm'),
	set('A', 'C', 'b', 'd'), set(0, 0x7F), set(0, 'B', 'D', 'c', 'e', 0xD7FF), set('K', 'K', 'k', 'k', 0x212A, 0x212A),
	rowOf(0, api.MaxRanges), rowOf(1, api.MaxRanges), rowOf(0xE000, 20),
}

// within tells whether a rune is in one of some ranges, whatever they are.
func within(l []api.Range, r int) bool {
	for _, g := range l {
		if g.Lo <= r && r <= g.Hi {
			return true
		}
	}
	return false
}

// otherCase is a letter's other case; another rune's is itself.
func otherCase(r int) int {
	switch {
	case 'a' <= r && r <= 'z':
		return r - 'a' + 'A'
	case 'A' <= r && r <= 'Z':
		return r - 'A' + 'a'
	}
	return r
}

// probes are the runes at which some lists may change, and a few besides.
func probes(lists ...[]api.Range) []int {
	out := []int{-1, 0, 1, '@', 'A', 'Z', '[', '`', 'a', 'z', '{', 0xD7FE, 0xD7FF, 0xD800, 0xDFFF, 0xE000, 0xE001, 0x10FFFE, 0x10FFFF, 0x110000, math.MinInt, math.MaxInt}
	for _, l := range lists {
		for _, g := range l {
			for _, r := range []int{g.Lo - 1, g.Lo, g.Hi, g.Hi + 1} {
				out = append(out, r, otherCase(r))
			}
		}
	}
	slices.Sort(out)
	return slices.Compact(out)
}

// isClassOf fails, if l is not the class of the runes of which want tells true.
func isClassOf(t *testing.T, what string, l []api.Range, at []int, want func(int) bool) {
	t.Helper()
	if !runes.Right(l) {
		t.Errorf("%s: %x is no class", what, l)
	}
	for _, r := range at {
		if within(l, r) != want(r) {
			t.Errorf("%s: %x is in it: %t", what, r, !want(r))
		}
	}
}

// P1.5: Right, with the limit.
func TestRight(t *testing.T) {
	for _, l := range classes {
		if !runes.Right(l) {
			t.Errorf("Right(%x) = false", l)
		}
	}
	for _, l := range wrongClasses {
		if runes.Right(l) {
			t.Errorf("Right(%x) = true", l)
		}
	}
}

// P1.5: Has, in classes and in what is none.
func TestHas(t *testing.T) {
	if !runes.Has(set(0x61, 0x63), 0x62) || runes.Has(set(0x63, 0x61), 0x62) {
		t.Error("Has: the chapter's examples")
	}
	for _, l := range classes {
		few := l[:min(len(l), 40)]
		for _, r := range probes(few, l[len(l)-len(few):]) {
			if runes.Has(l, r) != within(l, r) {
				t.Errorf("Has(%x, %x) = %t", few, r, !within(l, r))
			}
		}
	}
	for _, l := range wrongClasses {
		for _, r := range []int{-3, 0, 1, 2, 4, 5, 11, 'b', 0xD7FF, 0xD800, 0xDFFF, 0xE000, 0x10FFFF, 0x110000} {
			if runes.Has(l, r) {
				t.Errorf("Has(%x, %x) = true", l[:min(len(l), 5)], r)
			}
		}
	}
}

// P1.6: Norm: the chapter's examples and other edges.
func TestNorm(t *testing.T) {
	for _, c := range []struct{ l, want []api.Range }{
		{nil, nil},
		{set(0x61, 0x63, 0x62, 0x70, 0x30, 0x30), set(0x30, 0x30, 0x61, 0x70)},
		{set(0xD700, 0xE010), set(0xD700, 0xD7FF, 0xE000, 0xE010)},
		{set(0xD800, 0xDFFF), nil},
		{set(0xD7FF, 0xD800), set(0xD7FF, 0xD7FF)},
		{set(0xDFFF, 0xE000), set(0xE000, 0xE000)},
		{set(0xE000, 0xE000, 0xD7FF, 0xD7FF), set(0xD7FF, 0xD7FF, 0xE000, 0xE000)},
		{set(0xE000, 0xE000, 0xD800, 0xDFFF, 0xD7FF, 0xD7FF), set(0xD7FF, 0xD7FF, 0xE000, 0xE000)},
		{set(0, 0x10FFFF), everything},
		{set(3, 4, 1, 2), set(1, 4)},
		{set(1, 2, 4, 5), set(1, 2, 4, 5)},
		{set(1, 9, 2, 3, 10, 10), set(1, 10)},
		{set(1, 9, 2, 3, 11, 11), set(1, 9, 11, 11)},
		{set(7, 7, 7, 7, 7, 7), set(7, 7)},
		{rowOf(0, api.MaxRanges), rowOf(0, api.MaxRanges)},
	} {
		if l, e := runes.Norm(c.l); !slices.Equal(l, c.want) || e != api.OK {
			t.Errorf("Norm(%x) = %x, %d; want %x", c.l, l, e, c.want)
		}
	}
	for _, l := range [][]api.Range{set(0, 0x110000), set(5, 4), set(-1, 4), set(1, 2, 4, 3), set(1, 2, 0x110000, 0x110000), set(math.MinInt, 5), set(5, math.MaxInt), set(0xDFFF, 0xD800)} {
		if out, e := runes.Norm(l); out != nil || e != api.ErrRunesRange {
			t.Errorf("Norm(%x) = %x, %d", l, out, e)
		}
	}
}

// P1.6: how many ranges Norm is handed is not how many its class has; a wrong range goes ahead of too many.
func TestNormLimit(t *testing.T) {
	many := rowOf(0, api.MaxRanges+1)
	if l, e := runes.Norm(many); l != nil || e != api.ErrBig {
		t.Errorf("one too many: %d ranges, %d", len(l), e)
	}
	if l, e := runes.Norm(append(rowOf(0, api.MaxRanges+1), api.Range{Lo: 1, Hi: 1})); len(l) != api.MaxRanges || e != api.OK {
		t.Errorf("two of one too many are neighbours: %d ranges, %d", len(l), e)
	}
	if l, e := runes.Norm(append(rowOf(0, api.MaxRanges), set(0xD800, 0xDFFF, 4, 4)...)); len(l) != api.MaxRanges || e != api.OK {
		t.Errorf("some of no runes: %d ranges, %d", len(l), e)
	}
	if l, e := runes.Norm(append(rowOf(0, api.MaxRanges-1), api.Range{Lo: 0xD7FF, Hi: 0xE000})); l != nil || e != api.ErrBig {
		t.Errorf("one that is cut in two: %d ranges, %d", len(l), e)
	}
	if l, e := runes.Norm(append(rowOf(0, api.MaxRanges-2), api.Range{Lo: 0xD7FF, Hi: 0xE000})); len(l) != api.MaxRanges || e != api.OK {
		t.Errorf("one that is cut in two: %d ranges, %d", len(l), e)
	}
	if l, e := runes.Norm(append(rowOf(0, api.MaxRanges+1), api.Range{Lo: 2, Hi: 1})); l != nil || e != api.ErrRunesRange {
		t.Errorf("a wrong one behind too many: %d ranges, %d", len(l), e)
	}
	if l, e := runes.Norm(slices.Repeat(set('a', 'a'), 3*api.MaxRanges)); !slices.Equal(l, set('a', 'a')) || e != api.OK {
		t.Errorf("one many times: %x, %d", l, e)
	}
}

// P1.6: Union: ordinary classes, wrong ones on either side, the limit.
func TestUnion(t *testing.T) {
	for _, c := range []struct{ a, b, want []api.Range }{
		{nil, nil, nil},
		{set('a', 'c'), nil, set('a', 'c')},
		{set('a', 'c'), set('b', 'f', 'x', 'x'), set('a', 'f', 'x', 'x')},
		{set('a', 'c'), set('d', 'f'), set('a', 'f')},
		{set('a', 'c'), set('e', 'f'), set('a', 'c', 'e', 'f')},
		{set(0, 0xD7FF), set(0xE000, 0x10FFFF), everything},
		{rowOf(0, api.MaxRanges), rowOf(1, api.MaxRanges), set(0, 2*api.MaxRanges-1)},
	} {
		if l, e := runes.Union(c.a, c.b); !slices.Equal(l, c.want) || e != api.OK {
			t.Errorf("Union(%x, %x) = %x, %d", c.a, c.b, l, e)
		}
	}
	for _, l := range wrongClasses {
		for _, ok := range [][]api.Range{nil, everything, rowOf(0x20000, api.MaxRanges), l} {
			if out, e := runes.Union(l, ok); out != nil || e != api.ErrRunesRange {
				t.Errorf("Union of a wrong one and another: %x, %d", out, e)
			}
			if out, e := runes.Union(ok, l); out != nil || e != api.ErrRunesRange {
				t.Errorf("Union of one and a wrong one: %x, %d", out, e)
			}
		}
	}
	full := rowOf(0, api.MaxRanges)
	if l, e := runes.Union(full, set(0x20000, 0x20000)); l != nil || e != api.ErrBig {
		t.Errorf("Union, one too many: %d ranges, %d", len(l), e)
	}
	if l, e := runes.Union(full[1:], set(0x20000, 0x20000)); len(l) != api.MaxRanges || e != api.OK {
		t.Errorf("Union, at the limit: %d ranges, %d", len(l), e)
	}
}

// P1.6: Negate: the chapter's examples, wrong ones, the limit.
func TestNegate(t *testing.T) {
	for _, c := range []struct{ l, want []api.Range }{
		{nil, everything},
		{set(0x61, 0x61), set(0, 0x60, 0x62, 0xD7FF, 0xE000, 0x10FFFF)},
		{everything, nil},
		{set(0, 0), set(1, 0xD7FF, 0xE000, 0x10FFFF)},
		{set(0x10FFFF, 0x10FFFF), set(0, 0xD7FF, 0xE000, 0x10FFFE)},
		{set(0xD7FF, 0xD7FF), set(0, 0xD7FE, 0xE000, 0x10FFFF)},
		{set(0xE000, 0xE000), set(0, 0xD7FF, 0xE001, 0x10FFFF)},
		{set(0xD7FF, 0xD7FF, 0xE000, 0xE000), set(0, 0xD7FE, 0xE001, 0x10FFFF)},
		{set(0, 0xD7FF), set(0xE000, 0x10FFFF)},
	} {
		if l, e := runes.Negate(c.l); !slices.Equal(l, c.want) || e != api.OK {
			t.Errorf("Negate(%x) = %x, %d", c.l, l, e)
		}
	}
	for _, l := range wrongClasses {
		if out, e := runes.Negate(l); out != nil || e != api.ErrRunesRange {
			t.Errorf("Negate of %x = %x, %d", l[:min(len(l), 5)], out, e)
		}
	}
	// All but n runes that lie apart, the first one 1: n + 1 ranges, one more by the gap.
	if l, e := runes.Negate(rowOf(1, api.MaxRanges-2)); len(l) != api.MaxRanges || e != api.OK {
		t.Errorf("Negate, at the limit: %d ranges, %d", len(l), e)
	}
	for _, n := range []int{api.MaxRanges - 1, api.MaxRanges} {
		if l, e := runes.Negate(rowOf(1, n)); l != nil || e != api.ErrBig {
			t.Errorf("Negate of %d: %d ranges, %d", n, len(l), e)
		}
	}
	if l, e := runes.Negate(rowOf(0, api.MaxRanges-1)); len(l) != api.MaxRanges || e != api.OK {
		t.Errorf("Negate from 0 on, at the limit: %d ranges, %d", len(l), e)
	}
}

// P1.6: Fold: the chapter's examples, wrong ones, the limit.
func TestFold(t *testing.T) {
	for _, c := range []struct{ l, want []api.Range }{
		{nil, nil},
		{set(0x5A, 0x62), set(0x41, 0x42, 0x5A, 0x62, 0x7A, 0x7A)},
		{set('0', '9'), set('0', '9')},
		{set('a', 'z'), set('A', 'Z', 'a', 'z')},
		{set('A', 'Z'), set('A', 'Z', 'a', 'z')},
		{set('@', '@', '[', '`', '{', '{'), set('@', '@', '[', '`', '{', '{')},
		{set('A', 'A', 'Z', 'Z'), set('A', 'A', 'Z', 'Z', 'a', 'a', 'z', 'z')},
		{set(0, 'A', 'Z', 0xD7FF), set(0, 0xD7FF)},
		{set(0, 0x60), set(0, 'z')},
		{set(0xE9, 0xE9, 0x17F, 0x17F, 0x212A, 0x212A), set(0xE9, 0xE9, 0x17F, 0x17F, 0x212A, 0x212A)},
		{everything, everything},
	} {
		if l, e := runes.Fold(c.l); !slices.Equal(l, c.want) || e != api.OK {
			t.Errorf("Fold(%x) = %x, %d", c.l, l, e)
		}
	}
	for _, l := range wrongClasses {
		if out, e := runes.Fold(l); out != nil || e != api.ErrRunesRange {
			t.Errorf("Fold of %x = %x, %d", l[:min(len(l), 5)], out, e)
		}
	}
	letter := append(set('k', 'k'), rowOf(0x1000, api.MaxRanges-1)...)
	if l, e := runes.Fold(letter); l != nil || e != api.ErrBig {
		t.Errorf("Fold, one too many: %d ranges, %d", len(l), e)
	}
	if l, e := runes.Fold(letter[:api.MaxRanges-1]); len(l) != api.MaxRanges || e != api.OK {
		t.Errorf("Fold, at the limit: %d ranges, %d", len(l), e)
	}
	if l, e := runes.Fold(rowOf(0x1000, api.MaxRanges)); len(l) != api.MaxRanges || e != api.OK {
		t.Errorf("Fold without letters: %d ranges, %d", len(l), e)
	}
}

// calls are those that answer a class, each of one list alone.
var calls = map[string]func([]api.Range) ([]api.Range, api.Errno){
	"Norm":    runes.Norm,
	"Negate":  runes.Negate,
	"Fold":    runes.Fold,
	"Union":   func(l []api.Range) ([]api.Range, api.Errno) { return runes.Union(l, l) },
	"Union a": func(l []api.Range) ([]api.Range, api.Errno) { return runes.Union(l, nil) },
	"Union b": func(l []api.Range) ([]api.Range, api.Errno) { return runes.Union(nil, l) },
}

// P1.7: ranges that are handed in stay, with their spare room; answers share no memory with them or with one another.
func TestClassesStay(t *testing.T) {
	spare := api.Range{Lo: 77, Hi: 78}
	for name, call := range calls {
		for _, l := range append(slices.Clone(classes), set(9, 12, 3, 4, 1, 2), set(0xD000, 0xF000, 4, 4)) {
			whole := append(slices.Clone(l), spare, spare, spare, spare)
			kept := slices.Clone(whole)
			in := whole[:len(l)]
			runes.Right(in)
			runes.Has(in, 'a')
			one, e := call(in)
			two, e2 := call(in)
			want := slices.Clone(two)
			one = one[:cap(one)]
			for i := range one {
				one[i] = spare
			}
			if !slices.Equal(whole, kept) || !slices.Equal(two, want) || e != e2 {
				t.Errorf("%s: what is handed in, or an earlier answer, has changed", name)
			}
			clear(whole)
			if !slices.Equal(two, want) {
				t.Errorf("%s: the answer hangs on what was handed in", name)
			}
		}
	}
}

// P1.7: both classes of Union stay.
func TestUnionStays(t *testing.T) {
	a, b := set('a', 'c', 1, 1, 1, 1), set('d', 'f', 2, 2, 2, 2)
	if l, e := runes.Union(a[:1], b[:1]); !slices.Equal(l, set('a', 'f')) || e != api.OK {
		t.Errorf("Union = %x, %d", l, e)
	}
	if !slices.Equal(a, set('a', 'c', 1, 1, 1, 1)) || !slices.Equal(b, set('d', 'f', 2, 2, 2, 2)) {
		t.Errorf("changed: %x, %x", a, b)
	}
}

// drawn is ranges from 0 to MaxRune made by a short rule, near the edges or anywhere.
func drawn(seed uint32) []api.Range {
	next := func(n int) int {
		seed = seed*1664525 + 1013904223
		return int(seed>>8) % n
	}
	bases := []int{0, '0', 'A' - 3, 'Y', 'a' - 3, 'x', 0xD7F0, 0xDFF0, 0x10FFE0, 0x400, next(api.MaxRune - 40)}
	var out []api.Range
	for range next(9) {
		lo := bases[next(len(bases))] + next(20)
		out = append(out, api.Range{Lo: lo, Hi: min(lo+next(12)*next(12), api.MaxRune)})
	}
	return out
}

// P1.10: which runes are in an answer.
func TestSets(t *testing.T) {
	for seed := range uint32(3000) {
		l := drawn(seed)
		a, e := runes.Norm(l)
		b, e2 := runes.Norm(drawn(seed + 90000))
		if e != api.OK || e2 != api.OK {
			t.Fatalf("Norm: %d, %d", e, e2)
		}
		at := probes(l, b)
		isClassOf(t, "Norm", a, at, func(r int) bool { return domain(r) && within(l, r) })
		both, _ := runes.Union(a, b)
		isClassOf(t, "Union", both, at, func(r int) bool { return within(a, r) || within(b, r) })
		none, _ := runes.Negate(a)
		isClassOf(t, "Negate", none, at, func(r int) bool { return domain(r) && !within(a, r) })
		folded, _ := runes.Fold(a)
		isClassOf(t, "Fold", folded, at, func(r int) bool { return within(a, r) || within(a, otherCase(r)) })
		for _, r := range at {
			if runes.Has(a, r) != within(a, r) {
				t.Errorf("Has(%x, %x)", a, r)
			}
		}
	}
}

// P1.10: classes with the same runes are the same.
func TestSameClasses(t *testing.T) {
	all := slices.Clone(classes)
	for seed := range uint32(500) {
		l, _ := runes.Norm(drawn(seed))
		all = append(all, l)
	}
	for i, l := range all {
		if out, e := runes.Norm(l); !slices.Equal(out, l) || e != api.OK {
			t.Errorf("Norm of the class %x = %x, %d", l, out, e)
		}
		if not, e := runes.Negate(l); e == api.OK {
			if back, e := runes.Negate(not); !slices.Equal(back, l) || e != api.OK {
				t.Errorf("Negate of Negate of %x = %x, %d", l, back, e)
			}
		}
		if folded, e := runes.Fold(l); e == api.OK {
			if again, e := runes.Fold(folded); !slices.Equal(again, folded) || e != api.OK {
				t.Errorf("Fold of Fold of %x = %x, %d", l, again, e)
			}
		}
		other := all[(i*7+3)%len(all)]
		ab, e := runes.Union(l, other)
		ba, e2 := runes.Union(other, l)
		if !slices.Equal(ab, ba) || e != e2 {
			t.Errorf("Union of %x and %x hangs on the order", l, other)
		}
	}
}
