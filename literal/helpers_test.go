package literal_test

import (
	"fmt"
	"slices"
	"testing"

	"heron/api"
	"heron/literal"
	"heron/pike"
	"heron/prog"
	"heron/syntax"
)

// least and most are the edges of all numbers.
const (
	most  = int(^uint(0) >> 1)
	least = -most - 1
)

// rangesOf are ranges, told by pairs of runes.
func rangesOf(l ...int) []api.Range {
	var ranges []api.Range
	for i := 0; i < len(l); i += 2 {
		ranges = append(ranges, api.Range{Lo: l[i], Hi: l[i+1]})
	}
	return ranges
}

// manyRanges are so many ranges of one rune each, every second one from 0 on, without those from D800 to DFFF; a class while they are not too many.
func manyRanges(count int) []api.Range {
	var ranges []api.Range
	for i := range count {
		ranges = append(ranges, api.Range{Lo: 2 * i, Hi: 2 * i})
	}
	return ranges
}

// many are so many things, each the same.
func many[T any](count int, one T) []T { return slices.Repeat([]T{one}, count) }

// The instructions.

func ifRune(x int, ranges ...api.Range) api.Inst {
	return api.Inst{Op: api.OpRune, X: x, Ranges: ranges}
}

// ifA, ifB, ifC and ifOne take one rune alone.
func ifA(x int) api.Inst { return ifOne('a', x) }

func ifB(x int) api.Inst { return ifOne('b', x) }

func ifC(x int) api.Inst { return ifOne('c', x) }

func ifOne(r, x int) api.Inst { return ifRune(x, rangesOf(r, r)...) }

func either(x, y int) api.Inst { return api.Inst{Op: api.OpAlt, X: x, Y: y} }

func note(arg, x int) api.Inst { return api.Inst{Op: api.OpCap, Arg: arg, X: x} }

func ifHolds(arg, x int) api.Inst { return api.Inst{Op: api.OpAssert, Arg: arg, X: x} }

func match(arg int) api.Inst { return api.Inst{Op: api.OpMatch, Arg: arg} }

func fail() api.Inst { return api.Inst{Op: api.OpFail} }

func goOn(x int) api.Inst { return api.Inst{Op: api.OpNop, X: x} }

// begun is a program of two captures that begins with its first instruction.
func begun(insts ...api.Inst) api.Program { return begunAt(0, insts...) }

// begunAt is one that begins with another one.
func begunAt(start int, insts ...api.Inst) api.Program {
	return api.Program{Insts: insts, Start: start, Caps: 2}
}

// ofPattern is the program of a pattern that is not to be refused.
func ofPattern(t testing.TB, pattern string) api.Program {
	t.Helper()
	tree, err := syntax.Parse(pattern)
	if err != nil {
		t.Fatalf("%q: %v", pattern, err)
	}
	p, errno := prog.Compile(tree)
	if errno != api.OK {
		t.Fatalf("%q: %d", pattern, errno)
	}
	return p
}

// joined is the Join of programs that are not to be refused.
func joined(t testing.TB, l ...api.Program) api.Program {
	t.Helper()
	p, errno := prog.Join(l)
	if errno != api.OK {
		t.Fatalf("Join: %d", errno)
	}
	return p
}

// runesOf are a string's runes.
func runesOf(s string) []int {
	var l []int
	for _, r := range s {
		l = append(l, int(r))
	}
	return l
}

// sameInst tells whether two instructions are the same; a nil list is as an empty one.
func sameInst(a, b api.Inst) bool {
	return a.Op == b.Op && a.X == b.X && a.Y == b.Y && a.Arg == b.Arg && slices.Equal(a.Ranges, b.Ranges)
}

// same tells whether two programs are.
func same(a, b api.Program) bool {
	return a.Start == b.Start && a.Caps == b.Caps && slices.EqualFunc(a.Insts, b.Insts, sameInst)
}

// shownProgram is a program as it is told by a failing test.
func shownProgram(p api.Program) string {
	s := fmt.Sprintf("%v; Start %d; Caps %d; %d instructions", p.Insts[:min(len(p.Insts), 20)], p.Start, p.Caps, len(p.Insts))
	return fmt.Sprintf("%.600s", s)
}

// shown are runes likewise.
func shown(l []int) string { return fmt.Sprintf("%v (%d)", l[:min(len(l), 20)], len(l)) }

// wantPrefix fails, if Prefix does not answer that row, behind which nobody can write, and that.
func wantPrefix(t *testing.T, p api.Program, want []int, whole bool) {
	t.Helper()
	row, is := literal.Prefix(p)
	if !slices.Equal(row, want) || is != whole {
		t.Errorf("%s: %s, %v; want %s, %v", shownProgram(p), shown(row), is, shown(want), whole)
	}
	if cap(row) != len(row) {
		t.Errorf("%s: %d runes, and room for %d", shownProgram(p), len(row), cap(row))
	}
}

// made is the finder of a row that is not to be refused.
func made(t testing.TB, lit []int) *literal.Finder {
	t.Helper()
	f, errno := literal.New(lit)
	if errno != api.OK || f == nil {
		t.Fatalf("%s: %v, %d", shown(lit), f, errno)
	}
	return f
}

// wantNext fails, if a finder of the row does not answer that, at once and once more.
func wantNext(t *testing.T, lit, text []int, at, want int) {
	t.Helper()
	f := made(t, lit)
	for range 2 {
		if place := f.Next(text, at); place != want {
			t.Errorf("%s in %s from %d: %d; want %d", shown(lit), shown(text), at, place, want)
		}
	}
}

// findsFrom tells whether a program finds something from a place.
func findsFrom(t testing.TB, p api.Program, text []int, at int) bool {
	t.Helper()
	f, errno := pike.Run(p, text, at, true)
	if errno != api.OK {
		t.Fatalf("%s: %d", shownProgram(p), errno)
	}
	return f.Ok
}
