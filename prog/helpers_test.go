package prog_test

import (
	"fmt"
	"slices"
	"strings"
	"testing"

	"heron/api"
	"heron/printer"
	"heron/prog"
	"heron/syntax"
)

// class is one of ranges, told by pairs of runes.
func class(l ...int) api.Node { return api.Node{Kind: api.NodeClass, Ranges: rangesOf(l...)} }

// rangesOf are ranges, told by pairs of runes.
func rangesOf(l ...int) []api.Range {
	var ranges []api.Range
	for i := 0; i < len(l); i += 2 {
		ranges = append(ranges, api.Range{Lo: l[i], Hi: l[i+1]})
	}
	return ranges
}

// manyRanges are so many ranges of one rune each, a class while they are not too many.
func manyRanges(count int) []api.Range {
	var ranges []api.Range
	for i := range count {
		ranges = append(ranges, api.Range{Lo: 2 * i, Hi: 2 * i})
	}
	return ranges
}

// runeOf is the class of one rune.
func runeOf(r int) api.Node { return class(r, r) }

func empty() api.Node { return api.Node{Kind: api.NodeEmpty} }

func assert(which int) api.Node { return api.Node{Kind: api.NodeAssert, Assert: which} }

func cat(subs ...api.Node) api.Node { return api.Node{Kind: api.NodeCat, Subs: subs} }

func alt(subs ...api.Node) api.Node { return api.Node{Kind: api.NodeAlt, Subs: subs} }

func repeat(least, most int, lazy bool, sub api.Node) api.Node {
	return api.Node{Kind: api.NodeRepeat, Min: least, Max: most, Lazy: lazy, Subs: []api.Node{sub}}
}

// star, plus and quest are the loops, not lazy.
func star(sub api.Node) api.Node { return repeat(0, -1, false, sub) }

func plus(sub api.Node) api.Node { return repeat(1, -1, false, sub) }

func quest(sub api.Node) api.Node { return repeat(0, 1, false, sub) }

func group(index int, sub api.Node) api.Node {
	return api.Node{Kind: api.NodeGroup, Index: index, Subs: []api.Node{sub}}
}

func named(index int, name string, sub api.Node) api.Node {
	return api.Node{Kind: api.NodeGroup, Index: index, Name: name, Subs: []api.Node{sub}}
}

// many are so many things, each the same.
func many[T any](count int, one T) []T { return slices.Repeat([]T{one}, count) }

// chain is a node below so many others, each made by above.
func chain(count int, last api.Node, above func(api.Node) api.Node) api.Node {
	for range count {
		last = above(last)
	}
	return last
}

// The instructions.

func ifRune(x int, ranges ...api.Range) api.Inst {
	return api.Inst{Op: api.OpRune, X: x, Ranges: ranges}
}

func either(x, y int) api.Inst { return api.Inst{Op: api.OpAlt, X: x, Y: y} }

func note(arg, x int) api.Inst { return api.Inst{Op: api.OpCap, Arg: arg, X: x} }

func ifHolds(arg, x int) api.Inst { return api.Inst{Op: api.OpAssert, Arg: arg, X: x} }

func match(arg int) api.Inst { return api.Inst{Op: api.OpMatch, Arg: arg} }

func fail() api.Inst { return api.Inst{Op: api.OpFail} }

func goOn(x int) api.Inst { return api.Inst{Op: api.OpNop, X: x} }

// whole is a program that begins with its first instruction.
func whole(caps int, insts ...api.Inst) api.Program { return api.Program{Insts: insts, Caps: caps} }

// ofLength is a program that may be, of so many instructions.
func ofLength(count int) api.Program {
	p := api.Program{Caps: 2, Insts: many(count, goOn(0))}
	p.Insts[count-1] = match(0)
	return p
}

// treeOf is a pattern's tree.
func treeOf(t testing.TB, pattern string) api.Node {
	t.Helper()
	tree, err := syntax.Parse(pattern)
	if err != nil {
		t.Fatalf("%q: %v", pattern, err)
	}
	return tree
}

// runesOf are a string's runes.
func runesOf(s string) []int {
	var l []int
	for _, r := range s {
		l = append(l, int(r))
	}
	return l
}

// sameInst tells whether two instructions are the same; a nil list is as an empty one.
func sameInst(a, b api.Inst) bool {
	return a.Op == b.Op && a.X == b.X && a.Y == b.Y && a.Arg == b.Arg && slices.Equal(a.Ranges, b.Ranges)
}

// same tells whether two programs are.
func same(a, b api.Program) bool {
	return a.Start == b.Start && a.Caps == b.Caps && slices.EqualFunc(a.Insts, b.Insts, sameInst)
}

// cut is a text of which a failing test tells no more than the beginning.
func cut(s string) string {
	if len(s) > 600 {
		return s[:600] + ".."
	}
	return s
}

// shownTree is a tree as it is told by a failing test: its pattern, if it is one's.
func shownTree(n api.Node) string {
	text, errno := printer.Print(n)
	if errno != api.OK {
		text = fmt.Sprint(n)
	}
	return cut(text)
}

// told is a program as the chapter writes it; a class by its numbers, or by its rune, if it has one alone.
func told(p api.Program) string {
	var l []string
	for i, x := range p.Insts[:min(len(p.Insts), 100)] {
		l = append(l, fmt.Sprintf("%d %s", i, toldInst(x)))
	}
	return strings.Join(l, "; ")
}

func toldInst(x api.Inst) string {
	switch x.Op {
	case api.OpRune:
		return fmt.Sprintf("Rune %s > %d", toldClass(x.Ranges), x.X)
	case api.OpAlt:
		return fmt.Sprintf("Alt > %d, %d", x.X, x.Y)
	case api.OpCap:
		return fmt.Sprintf("Cap %d > %d", x.Arg, x.X)
	case api.OpAssert:
		return fmt.Sprintf("Assert %d > %d", x.Arg, x.X)
	case api.OpMatch:
		return fmt.Sprintf("Match %d", x.Arg)
	case api.OpFail:
		return "Fail"
	case api.OpNop:
		return fmt.Sprintf("Nop > %d", x.X)
	}
	return fmt.Sprint(x)
}

func toldClass(l []api.Range) string {
	if len(l) == 1 && l[0].Lo == l[0].Hi {
		return string(rune(l[0].Lo))
	}
	return fmt.Sprint(l)
}

// shown is a program as it is told by a failing test.
func shown(p api.Program) string {
	return cut(fmt.Sprintf("%s; Start %d; Caps %d; %d instructions", told(p), p.Start, p.Caps, len(p.Insts)))
}

// compiled is the program of a tree that is not to be refused.
func compiled(t testing.TB, tree api.Node) api.Program {
	t.Helper()
	p, errno := prog.Compile(tree)
	if errno != api.OK {
		t.Fatalf("%s: %d", shownTree(tree), errno)
	}
	return p
}

// ofPattern is the program of a pattern that is not to be refused.
func ofPattern(t testing.TB, pattern string) api.Program {
	t.Helper()
	return compiled(t, treeOf(t, pattern))
}

// joined is the Join of programs that are not to be refused.
func joined(t testing.TB, l ...api.Program) api.Program {
	t.Helper()
	p, errno := prog.Join(l)
	if errno != api.OK {
		t.Fatalf("Join: %d", errno)
	}
	return p
}

// wantProgram fails, if a tree has another program.
func wantProgram(t *testing.T, tree api.Node, want api.Program) {
	t.Helper()
	p, errno := prog.Compile(tree)
	if errno != api.OK || !same(p, want) {
		t.Errorf("%s: %s, %d; want %s", shownTree(tree), shown(p), errno, shown(want))
	}
}

// wantCompile fails, if Compile does not answer that, or anything beside an error.
func wantCompile(t *testing.T, what string, tree api.Node, want api.Errno) {
	t.Helper()
	p, errno := prog.Compile(tree)
	if errno != want {
		t.Errorf("%s: %d; want %d", what, errno, want)
	}
	if errno != api.OK && !same(p, api.Program{}) {
		t.Errorf("%s: %s beside %d", what, shown(p), errno)
	}
}

// wantCheck fails, if Check says otherwise.
func wantCheck(t *testing.T, what string, p api.Program, want api.Errno) {
	t.Helper()
	if errno := prog.Check(p); errno != want {
		t.Errorf("%s: %s: %d; want %d", what, shown(p), errno, want)
	}
}

// wantJoined fails, if programs have another Join.
func wantJoined(t *testing.T, l []api.Program, want api.Program) {
	t.Helper()
	p, errno := prog.Join(l)
	if errno != api.OK || !same(p, want) {
		t.Errorf("Join of %d: %s, %d; want %s", len(l), shown(p), errno, shown(want))
	}
}

// wantJoin fails, if Join does not answer that, or anything beside an error.
func wantJoin(t *testing.T, what string, l []api.Program, want api.Errno) {
	t.Helper()
	p, errno := prog.Join(l)
	if errno != want {
		t.Errorf("%s: %d; want %d", what, errno, want)
	}
	if errno != api.OK && !same(p, api.Program{}) {
		t.Errorf("%s: %s beside %d", what, shown(p), errno)
	}
}
