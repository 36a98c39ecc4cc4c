package onepass_test

import (
	"fmt"
	"slices"
	"testing"

	"heron/api"
	"heron/onepass"
	"heron/prog"
	"heron/syntax"
)

// least and most are the edges of all numbers.
const (
	most  = int(^uint(0) >> 1)
	least = -most - 1
)

// rangesOf are ranges, told by pairs of runes.
func rangesOf(l ...int) []api.Range {
	var ranges []api.Range
	for i := 0; i < len(l); i += 2 {
		ranges = append(ranges, api.Range{Lo: l[i], Hi: l[i+1]})
	}
	return ranges
}

// manyRanges are so many ranges of one rune each, so many apart, from a rune on, without those from D800 to DFFF; a class while they are not too many.
func manyRanges(count, from, apart int) []api.Range {
	var ranges []api.Range
	for i := range count {
		r := from + apart*i
		if r >= 0xD800 {
			r += 0x800
		}
		ranges = append(ranges, api.Range{Lo: r, Hi: r})
	}
	return ranges
}

// many are so many things, each the same.
func many[T any](count int, one T) []T { return slices.Repeat([]T{one}, count) }

// The instructions.

func ifRune(x int, ranges ...api.Range) api.Inst {
	return api.Inst{Op: api.OpRune, X: x, Ranges: ranges}
}

// ifA, ifB, ifC, ifOne and ifAny take one rune alone, or each of the domain.
func ifA(x int) api.Inst { return ifOne('a', x) }

func ifB(x int) api.Inst { return ifOne('b', x) }

func ifC(x int) api.Inst { return ifOne('c', x) }

func ifOne(r, x int) api.Inst { return ifRune(x, rangesOf(r, r)...) }

func ifAny(x int) api.Inst { return ifRune(x, rangesOf(0, 0xD7FF, 0xE000, api.MaxRune)...) }

func either(x, y int) api.Inst { return api.Inst{Op: api.OpAlt, X: x, Y: y} }

func note(arg, x int) api.Inst { return api.Inst{Op: api.OpCap, Arg: arg, X: x} }

func ifHolds(arg, x int) api.Inst { return api.Inst{Op: api.OpAssert, Arg: arg, X: x} }

func match(arg int) api.Inst { return api.Inst{Op: api.OpMatch, Arg: arg} }

func fail() api.Inst { return api.Inst{Op: api.OpFail} }

func goOn(x int) api.Inst { return api.Inst{Op: api.OpNop, X: x} }

// whole is a program that begins with its first instruction.
func whole(caps int, insts ...api.Inst) api.Program { return api.Program{Insts: insts, Caps: caps} }

// treeOf is a pattern's tree.
func treeOf(t testing.TB, pattern string) api.Node {
	t.Helper()
	tree, err := syntax.Parse(pattern)
	if err != nil {
		t.Fatalf("%q: %v", pattern, err)
	}
	return tree
}

// ofPattern is the program of a pattern that is not to be refused.
func ofPattern(t testing.TB, pattern string) api.Program {
	t.Helper()
	p, errno := prog.Compile(treeOf(t, pattern))
	if errno != api.OK {
		t.Fatalf("%q: %d", pattern, errno)
	}
	return p
}

// joined is the Join of programs that are not to be refused.
func joined(t testing.TB, l ...api.Program) api.Program {
	t.Helper()
	p, errno := prog.Join(l)
	if errno != api.OK {
		t.Fatalf("Join: %d", errno)
	}
	return p
}

// runesOf are a string's runes.
func runesOf(s string) []int {
	var l []int
	for _, r := range s {
		l = append(l, int(r))
	}
	return l
}

// found is what a run has found; nothing is not.
func found(steps, which int, caps ...int) api.Found {
	return api.Found{Ok: true, Caps: caps, Which: which, Steps: steps}
}

// nothing is what a run in vain answers.
func nothing(steps int) api.Found { return api.Found{Steps: steps} }

// sameFind tells whether two runs found the same, in however many steps; a nil list is as an empty one.
func sameFind(a, b api.Found) bool {
	return a.Ok == b.Ok && a.Which == b.Which && slices.Equal(a.Caps, b.Caps)
}

// sameFound tells whether they are the same in all.
func sameFound(a, b api.Found) bool { return sameFind(a, b) && a.Steps == b.Steps }

// sameInst tells whether two instructions are the same; a nil list is as an empty one.
func sameInst(a, b api.Inst) bool {
	return a.Op == b.Op && a.X == b.X && a.Y == b.Y && a.Arg == b.Arg && slices.Equal(a.Ranges, b.Ranges)
}

// same tells whether two programs are.
func same(a, b api.Program) bool {
	return a.Start == b.Start && a.Caps == b.Caps && slices.EqualFunc(a.Insts, b.Insts, sameInst)
}

// shownProgram is a program as it is told by a failing test.
func shownProgram(p api.Program) string {
	s := fmt.Sprintf("%v; Start %d; Caps %d; %d instructions", p.Insts[:min(len(p.Insts), 20)], p.Start, p.Caps, len(p.Insts))
	return fmt.Sprintf("%.600s", s)
}

// shown is a run likewise.
func shown(p api.Program, text []int, at int) string {
	return fmt.Sprintf("%s; over %v (%d) at %d", shownProgram(p), text[:min(len(text), 20)], len(text), at)
}

// wantIs fails, if Is does not answer that.
func wantIs(t *testing.T, p api.Program, want bool) {
	t.Helper()
	if is := onepass.Is(p); is != want {
		t.Errorf("%s: Is is %v", shownProgram(p), is)
	}
}

// wantRun fails, if Run does not answer that.
func wantRun(t *testing.T, p api.Program, text []int, at int, want api.Found) {
	t.Helper()
	f, errno := onepass.Run(p, text, at)
	if errno != api.OK || !sameFound(f, want) {
		t.Errorf("%s: %+v, %d; want %+v", shown(p, text, at), f, errno, want)
	}
}

// wantRefused fails, if Run does not answer that error, or anything beside it.
func wantRefused(t *testing.T, what string, p api.Program, text []int, at int, want api.Errno) {
	t.Helper()
	f, errno := onepass.Run(p, text, at)
	if errno != want || !sameFound(f, api.Found{}) {
		t.Errorf("%s: %s: %+v, %d; want %d", what, shown(p, text, at), f, errno, want)
	}
}

// ran is what Run answers, which is not to refuse.
func ran(t testing.TB, p api.Program, text []int, at int) api.Found {
	t.Helper()
	f, errno := onepass.Run(p, text, at)
	if errno != api.OK {
		t.Fatalf("%s: %d", shown(p, text, at), errno)
	}
	return f
}
