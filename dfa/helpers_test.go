package dfa_test

import (
	"fmt"
	"slices"
	"testing"

	"heron/api"
	"heron/dfa"
	"heron/prog"
	"heron/syntax"
)

// least and most are the edges of all numbers.
const (
	most  = int(^uint(0) >> 1)
	least = -most - 1
)

// rangesOf are ranges, told by pairs of runes.
func rangesOf(l ...int) []api.Range {
	var ranges []api.Range
	for i := 0; i < len(l); i += 2 {
		ranges = append(ranges, api.Range{Lo: l[i], Hi: l[i+1]})
	}
	return ranges
}

// manyRanges are so many ranges of one rune each, so many apart, from a rune on, without those from D800 to DFFF; a class while they are not too many.
func manyRanges(count, from, apart int) []api.Range {
	var ranges []api.Range
	for i := range count {
		r := from + apart*i
		if r >= 0xD800 {
			r += 0x800
		}
		ranges = append(ranges, api.Range{Lo: r, Hi: r})
	}
	return ranges
}

// many are so many things, each the same.
func many[T any](count int, one T) []T { return slices.Repeat([]T{one}, count) }

// The instructions.

func ifRune(x int, ranges ...api.Range) api.Inst {
	return api.Inst{Op: api.OpRune, X: x, Ranges: ranges}
}

// ifA, ifB, ifOne and ifAny take one rune alone, or each of the domain.
func ifA(x int) api.Inst { return ifOne('a', x) }

func ifB(x int) api.Inst { return ifOne('b', x) }

func ifOne(r, x int) api.Inst { return ifRune(x, rangesOf(r, r)...) }

func ifAny(x int) api.Inst { return ifRune(x, rangesOf(0, 0xD7FF, 0xE000, api.MaxRune)...) }

func either(x, y int) api.Inst { return api.Inst{Op: api.OpAlt, X: x, Y: y} }

func note(arg, x int) api.Inst { return api.Inst{Op: api.OpCap, Arg: arg, X: x} }

func ifHolds(arg, x int) api.Inst { return api.Inst{Op: api.OpAssert, Arg: arg, X: x} }

func match(arg int) api.Inst { return api.Inst{Op: api.OpMatch, Arg: arg} }

func fail() api.Inst { return api.Inst{Op: api.OpFail} }

func goOn(x int) api.Inst { return api.Inst{Op: api.OpNop, X: x} }

// whole is a program of two captures that begins with its first instruction.
func whole(insts ...api.Inst) api.Program { return api.Program{Insts: insts, Caps: 2} }

// treeOf is a pattern's tree.
func treeOf(t testing.TB, pattern string) api.Node {
	t.Helper()
	tree, err := syntax.Parse(pattern)
	if err != nil {
		t.Fatalf("%q: %v", pattern, err)
	}
	return tree
}

// ofTree is the program of a tree that is not to be refused.
func ofTree(t testing.TB, tree api.Node) api.Program {
	t.Helper()
	p, errno := prog.Compile(tree)
	if errno != api.OK {
		t.Fatalf("%v: %d", tree, errno)
	}
	return p
}

// ofPattern is that of a pattern.
func ofPattern(t testing.TB, pattern string) api.Program {
	t.Helper()
	return ofTree(t, treeOf(t, pattern))
}

// joined is the Join of programs that are not to be refused.
func joined(t testing.TB, l ...api.Program) api.Program {
	t.Helper()
	p, errno := prog.Join(l)
	if errno != api.OK {
		t.Fatalf("Join: %d", errno)
	}
	return p
}

// runesOf are a string's runes.
func runesOf(s string) []int {
	var l []int
	for _, r := range s {
		l = append(l, int(r))
	}
	return l
}

// sameInst tells whether two instructions are the same; a nil list is as an empty one.
func sameInst(a, b api.Inst) bool {
	return a.Op == b.Op && a.X == b.X && a.Y == b.Y && a.Arg == b.Arg && slices.Equal(a.Ranges, b.Ranges)
}

// same tells whether two programs are.
func same(a, b api.Program) bool {
	return a.Start == b.Start && a.Caps == b.Caps && slices.EqualFunc(a.Insts, b.Insts, sameInst)
}

// question is what End is asked.
type question struct {
	text     []int
	at, last int
	anchored bool
}

// answer is what it answers, where it refuses nothing.
type answer struct {
	end int
	is  bool
}

// at is the answer that something ends there; never that nothing is found.
func at(end int) answer { return answer{end, true} }

func never() answer { return answer{} }

// find is a question of all of a text from its beginning on; anchored, it is asked at its beginning alone.
func find(text string) question { return question{text: runesOf(text), last: len(runesOf(text))} }

func anchored(text string) question {
	q := find(text)
	q.anchored = true
	return q
}

// from and upTo are a question with another place, and with another last one.
func (q question) from(at int) question {
	q.at = at
	return q
}

func (q question) upTo(last int) question {
	q.last = last
	return q
}

// shownProgram is a program as it is told by a failing test.
func shownProgram(p api.Program) string {
	s := fmt.Sprintf("%v; Start %d; Caps %d; %d instructions", p.Insts[:min(len(p.Insts), 20)], p.Start, p.Caps, len(p.Insts))
	return fmt.Sprintf("%.600s", s)
}

// String is a question likewise.
func (q question) String() string {
	return fmt.Sprintf("over %v (%d) from %d, last %d, anchored %v", q.text[:min(len(q.text), 20)], len(q.text), q.at, q.last, q.anchored)
}

// made is the automaton of a program that is not to be refused.
func made(t testing.TB, p api.Program, states int, longest bool) *dfa.DFA {
	t.Helper()
	d, errno := dfa.New(p, states, longest)
	if errno != api.OK || d == nil {
		t.Fatalf("%s: %d states: %v, %d", shownProgram(p), states, d, errno)
	}
	return d
}

// asked is what an automaton answers to a question that is not to be refused.
func asked(t testing.TB, d *dfa.DFA, q question) answer {
	t.Helper()
	end, is, errno := d.End(q.text, q.at, q.last, q.anchored)
	if errno != api.OK {
		t.Fatalf("%s: %d", q, errno)
	}
	return answer{end, is}
}

// someLimits are numbers of states, the least and the greatest among them.
func someLimits() []int { return []int{2, 3, 7, api.MaxStates} }

// wantEnd fails, if automata of a program, of few states and of many, do not answer that, at once and once more.
func wantEnd(t *testing.T, p api.Program, longest bool, q question, want answer) {
	t.Helper()
	for _, states := range someLimits() {
		d := made(t, p, states, longest)
		for range 2 {
			if a := asked(t, d, q); a != want {
				t.Errorf("%s; longest %v, %d states: %s: %v; want %v", shownProgram(p), longest, states, q, a, want)
			}
		}
	}
}

// wantRefused fails, if an automaton does not answer that error, or anything beside it.
func wantRefused(t *testing.T, what string, d *dfa.DFA, q question, want api.Errno) {
	t.Helper()
	end, is, errno := d.End(q.text, q.at, q.last, q.anchored)
	if errno != want || end != 0 || is {
		t.Errorf("%s: %s: %d, %v, %d; want %d", what, q, end, is, errno, want)
	}
}

// wantNone fails, if New does not answer that error, and nothing beside it.
func wantNone(t *testing.T, what string, p api.Program, states int, want api.Errno) {
	t.Helper()
	for _, longest := range []bool{false, true} {
		if d, errno := dfa.New(p, states, longest); d != nil || errno != want {
			t.Errorf("%s: %s: %d states: %v, %d; want %d", what, shownProgram(p), states, d, errno, want)
		}
	}
}
