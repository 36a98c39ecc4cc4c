package prog_test

import (
	"slices"
	"testing"

	"heron/api"
	"heron/look"
	"heron/simplify"
)

// The chapter's words, slowly. A row is written down with marks where the table speaks of an instruction that is somewhere else; the marks become numbers when all stands.

// line is an instruction, with marks in the place of X and Y (0: right behind itself), or, without one, a mark that stands there.
type line struct {
	inst api.Inst
	x, y int
	mark int
}

// writer hands out marks.
type writer struct{ marks int }

func (w *writer) mark() int {
	w.marks++
	return w.marks
}

// rowOf is the row of a node, by the chapter's table.
func (w *writer) rowOf(n api.Node) []line {
	switch n.Kind {
	case api.NodeClass:
		if len(n.Ranges) == 0 {
			return []line{{inst: fail()}}
		}
		return []line{{inst: ifRune(0, n.Ranges...)}}
	case api.NodeAssert:
		return []line{{inst: ifHolds(n.Assert, 0)}}
	case api.NodeGroup:
		return slices.Concat([]line{{inst: note(2*n.Index, 0)}}, w.rowOf(n.Subs[0]), []line{{inst: note(2*n.Index+1, 0)}})
	case api.NodeCat:
		var rows []line
		for _, sub := range n.Subs {
			rows = append(rows, w.rowOf(sub)...)
		}
		return rows
	case api.NodeAlt:
		return w.rowOfAlt(n)
	case api.NodeRepeat:
		return w.rowOfLoop(n)
	}
	return nil
}

func (w *writer) rowOfAlt(n api.Node) []line {
	next := w.mark()
	var rows []line
	for i, sub := range n.Subs {
		if i == len(n.Subs)-1 {
			rows = append(rows, w.rowOf(sub)...)
			break
		}
		following := w.mark()
		rows = append(rows, line{inst: either(0, 0), y: following})
		rows = append(rows, w.rowOf(sub)...)
		rows = append(rows, line{inst: goOn(0), x: next}, line{mark: following})
	}
	return append(rows, line{mark: next})
}

func (w *writer) rowOfLoop(n api.Node) []line {
	first, inner, next := w.mark(), w.mark(), w.mark()
	sub := w.rowOf(n.Subs[0])
	fork := line{inst: either(0, 0), x: inner, y: next}
	if n.Min == 1 {
		fork.x = first
	}
	if n.Lazy {
		fork.x, fork.y = fork.y, fork.x
	}
	switch {
	case n.Min == 1:
		return slices.Concat([]line{{mark: first}}, sub, []line{fork, {mark: next}})
	case n.Max == 1:
		return slices.Concat([]line{fork, {mark: inner}}, sub, []line{{mark: next}})
	}
	return slices.Concat([]line{{mark: first}, fork, {mark: inner}}, sub, []line{{inst: goOn(0), x: first}, {mark: next}})
}

// model is the program of a tree; false: it is refused, for its simple form is, or its length.
func model(tree api.Node) (api.Program, bool) {
	simple, errno := simplify.Simplify(tree)
	if errno != api.OK {
		return api.Program{}, false
	}
	w := &writer{}
	lines := slices.Concat([]line{{inst: note(0, 0)}}, w.rowOf(simple), []line{{inst: note(1, 0)}, {inst: match(0)}})
	insts := numbered(lines)
	return api.Program{Insts: insts, Caps: 2 + 2*modelIndex(tree)}, len(insts) <= api.MaxInsts
}

// numbered are lines as instructions.
func numbered(lines []line) []api.Inst {
	places, count := map[int]int{}, 0
	for _, l := range lines {
		if l.mark > 0 {
			places[l.mark] = count
			continue
		}
		count++
	}
	var insts []api.Inst
	for _, l := range lines {
		if l.mark > 0 {
			continue
		}
		i := l.inst
		switch i.Op {
		case api.OpMatch, api.OpFail:
		default:
			i.X = len(insts) + 1
		}
		if l.x > 0 {
			i.X = places[l.x]
		}
		if l.y > 0 {
			i.Y = places[l.y]
		}
		insts = append(insts, i)
	}
	return insts
}

func modelIndex(n api.Node) int {
	greatest := 0
	if n.Kind == api.NodeGroup {
		greatest = n.Index
	}
	for _, sub := range n.Subs {
		greatest = max(greatest, modelIndex(sub))
	}
	return greatest
}

// modelCheck tells whether a program may be: what is left of each instruction, when the fields that its Op has are taken as they are, is nothing.
func modelCheck(p api.Program) bool {
	right := len(p.Insts) >= 1 && len(p.Insts) <= 20000 && p.Start >= 0 && p.Start < len(p.Insts)
	right = right && p.Caps >= 2 && p.Caps <= 1002 && p.Caps&1 == 0
	for _, i := range p.Insts {
		right = right && modelInst(p, i)
	}
	return right
}

func modelInst(p api.Program, i api.Inst) bool {
	is := func(n int) bool { return n >= 0 && n < len(p.Insts) }
	nothing := func(x, y, arg int, ranges []api.Range) bool { return x == 0 && y == 0 && arg == 0 && len(ranges) == 0 }
	switch i.Op {
	case api.OpRune:
		return is(i.X) && len(i.Ranges) > 0 && modelClass(i.Ranges) && nothing(0, i.Y, i.Arg, nil)
	case api.OpAlt:
		return is(i.X) && is(i.Y) && nothing(0, 0, i.Arg, i.Ranges)
	case api.OpCap:
		return is(i.X) && i.Arg >= 0 && i.Arg < p.Caps && nothing(0, i.Y, 0, i.Ranges)
	case api.OpAssert:
		return is(i.X) && slices.Contains([]int{1, 2, 4, 8, 16, 32}, i.Arg) && nothing(0, i.Y, 0, i.Ranges)
	case api.OpMatch:
		return i.Arg >= 0 && i.Arg < 100 && nothing(i.X, i.Y, 0, i.Ranges)
	case api.OpFail:
		return nothing(i.X, i.Y, i.Arg, i.Ranges)
	case api.OpNop:
		return is(i.X) && nothing(0, i.Y, i.Arg, i.Ranges)
	}
	return false
}

func modelClass(l []api.Range) bool {
	right := len(l) <= 5000
	for i, g := range l {
		right = right && g.Lo >= 0 && g.Lo <= g.Hi && g.Hi <= 0x10FFFF && (g.Hi < 0xD800 || g.Lo > 0xDFFF)
		if i > 0 {
			ahead := l[i-1].Hi
			right = right && (g.Lo > ahead+1 || g.Lo == 0xE000 && ahead == 0xD7FF)
		}
	}
	return right
}

// modelJoin are programs side by side; not 0: it is refused so.
func modelJoin(l []api.Program) (api.Program, api.Errno) {
	if len(l) == 0 || len(l) > 100 {
		return api.Program{}, api.ErrArg
	}
	for _, p := range l {
		if !modelCheck(p) {
			return api.Program{}, api.ErrProg
		}
	}
	var forks, rest []api.Inst
	moved := len(l) - 1
	p := api.Program{}
	for which, one := range l {
		start := moved + one.Start
		switch {
		case len(l) == 1:
			p.Start = start
		case which == len(l)-1:
			forks[which-1].Y = start
		default:
			forks = append(forks, either(start, which+1))
		}
		for _, i := range one.Insts {
			switch i.Op {
			case api.OpMatch:
				i = match(which)
			case api.OpAlt:
				i = either(i.X+moved, i.Y+moved)
			case api.OpRune, api.OpCap, api.OpAssert, api.OpNop:
				i.X += moved
			}
			rest = append(rest, i)
		}
		moved += len(one.Insts)
		p.Caps = max(p.Caps, one.Caps)
	}
	p.Insts = append(forks, rest...)
	if len(p.Insts) > 20000 {
		return api.Program{}, api.ErrBig
	}
	return p, api.OK
}

// pair is an instruction at a place.
type pair struct{ inst, place int }

// run is a program that is walked through.
type run struct {
	p    api.Program
	text []int
	met  map[pair]bool
}

// find is what a program finds from a place: whether anything, its Arg, and the captures.
func find(p api.Program, text []int, at int) (bool, int, []int) {
	r := &run{p, text, map[pair]bool{}}
	return r.from(p.Start, at, many(p.Caps, -1))
}

func (r *run) from(inst, at int, caps []int) (bool, int, []int) {
	if r.met[pair{inst, at}] {
		return false, 0, nil
	}
	r.met[pair{inst, at}] = true
	i := r.p.Insts[inst]
	switch i.Op {
	case api.OpRune:
		if at == len(r.text) || !inRanges(i.Ranges, r.text[at]) {
			return false, 0, nil
		}
		return r.from(i.X, at+1, caps)
	case api.OpAlt:
		if ok, arg, found := r.from(i.X, at, caps); ok {
			return ok, arg, found
		}
		return r.from(i.Y, at, caps)
	case api.OpCap:
		caps = slices.Clone(caps)
		caps[i.Arg] = at
		return r.from(i.X, at, caps)
	case api.OpAssert:
		if look.At(r.text, at)&i.Arg == 0 {
			return false, 0, nil
		}
		return r.from(i.X, at, caps)
	case api.OpMatch:
		return true, i.Arg, caps
	case api.OpNop:
		return r.from(i.X, at, caps)
	}
	return false, 0, nil
}

func inRanges(l []api.Range, r int) bool {
	return slices.ContainsFunc(l, func(g api.Range) bool { return g.Lo <= r && r <= g.Hi })
}

// TestModel: the model says of the chapter's examples what the chapter says.
func TestModel(t *testing.T) {
	for _, x := range examples() {
		if p, ok := model(treeOf(t, x.pattern)); !ok || told(p) != x.told || p.Caps != x.caps || p.Start != 0 {
			t.Errorf("%q: the model has %s; want %s", x.pattern, shown(p), x.told)
		}
	}
	if _, ok := model(treeOf(t, `(?:a{1000}){20}`)); ok {
		t.Error("the model takes one that is too great")
	}
	a, _ := model(treeOf(t, `a`))
	nothing, _ := model(treeOf(t, ``))
	p, errno := modelJoin([]api.Program{a, nothing})
	if errno != api.OK || told(p) != exampleOfJoin {
		t.Errorf("the model has %s, %d", shown(p), errno)
	}
	if ok, arg, caps := find(p, runesOf("b"), 0); !ok || arg != 1 || !slices.Equal(caps, []int{0, 0}) {
		t.Errorf("the model finds %v, %d, %v", ok, arg, caps)
	}
}
