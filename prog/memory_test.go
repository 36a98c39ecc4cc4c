package prog_test

import (
	"slices"
	"sync"
	"testing"
	"unsafe"

	"heron/api"
	"heron/prog"
)

// withRoom is a list with spare room, marked.
func withRoom[T any](l []T, mark T) []T { return append(slices.Clone(l), mark)[:len(l)] }

// roomOf is what stands in the spare room that withRoom made.
func roomOf[T any](l []T) T { return l[:len(l)+1][len(l)] }

// The marks.

func markOfRanges() api.Range { return api.Range{Lo: -7, Hi: -7} }

func markOfNodes() api.Node { return api.Node{Kind: -7} }

func markOfInsts() api.Inst { return api.Inst{Op: -7} }

func markOfPrograms() api.Program { return api.Program{Caps: -7} }

// roomyTree is a tree whose lists have spare room, marked.
func roomyTree(n api.Node) api.Node {
	n.Ranges = withRoom(n.Ranges, markOfRanges())
	n.Subs = withRoom(n.Subs, markOfNodes())
	for i := range n.Subs {
		n.Subs[i] = roomyTree(n.Subs[i])
	}
	return n
}

// treeMarked tells whether the spare room of a tree is as roomyTree made it.
func treeMarked(n api.Node) bool {
	if roomOf(n.Ranges) != markOfRanges() || roomOf(n.Subs).Kind != -7 {
		return false
	}
	return !slices.ContainsFunc(n.Subs, func(s api.Node) bool { return !treeMarked(s) })
}

// sameTree tells whether two trees are the same; a nil list is as an empty one.
func sameTree(a, b api.Node) bool {
	if a.Kind != b.Kind || a.Assert != b.Assert || a.Min != b.Min || a.Max != b.Max || a.Lazy != b.Lazy || a.Index != b.Index || a.Name != b.Name {
		return false
	}
	return slices.Equal(a.Ranges, b.Ranges) && slices.EqualFunc(a.Subs, b.Subs, sameTree)
}

// spoilTree makes nothing of a tree, in its own memory, spare room too.
func spoilTree(n api.Node) {
	for _, sub := range n.Subs {
		spoilTree(sub)
	}
	clear(n.Subs[:cap(n.Subs)])
	clear(n.Ranges[:cap(n.Ranges)])
}

// roomy is a program whose lists have spare room, marked.
func roomy(p api.Program) api.Program {
	p.Insts = withRoom(p.Insts, markOfInsts())
	for i := range p.Insts {
		p.Insts[i].Ranges = withRoom(p.Insts[i].Ranges, markOfRanges())
	}
	return p
}

// marked tells whether the spare room of a program is as roomy made it.
func marked(p api.Program) bool {
	unmarked := func(i api.Inst) bool { return roomOf(i.Ranges) != markOfRanges() }
	return roomOf(p.Insts).Op == -7 && !slices.ContainsFunc(p.Insts, unmarked)
}

// spoil makes nothing of a program, in its own memory, spare room too.
func spoil(p api.Program) {
	for _, i := range p.Insts {
		clear(i.Ranges[:cap(i.Ranges)])
	}
	clear(p.Insts[:cap(p.Insts)])
}

// copied is a program in memory of its own.
func copied(p api.Program) api.Program {
	p.Insts = slices.Clone(p.Insts)
	for i := range p.Insts {
		p.Insts[i].Ranges = slices.Clone(p.Insts[i].Ranges)
	}
	return p
}

// stretch is memory, from its first byte to behind its last one.
type stretch struct{ from, to uintptr }

// memoryOfList is that of a list, spare room too.
func memoryOfList[T any](l []T) []stretch {
	if cap(l) == 0 {
		return nil
	}
	var one T
	from := uintptr(unsafe.Pointer(unsafe.SliceData(l)))
	return []stretch{{from, from + uintptr(cap(l))*unsafe.Sizeof(one)}}
}

// memoryOfTree is that of all the lists of a tree.
func memoryOfTree(n api.Node) []stretch {
	l := append(memoryOfList(n.Ranges), memoryOfList(n.Subs)...)
	for _, sub := range n.Subs {
		l = append(l, memoryOfTree(sub)...)
	}
	return l
}

// memoryOf is that of all the lists of a program.
func memoryOf(p api.Program) []stretch {
	l := memoryOfList(p.Insts)
	for _, i := range p.Insts {
		l = append(l, memoryOfList(i.Ranges)...)
	}
	return l
}

// apart tells whether no two of some memory have a byte in common.
func apart(l []stretch) bool {
	slices.SortFunc(l, func(a, b stretch) int {
		if a.from < b.from {
			return -1
		}
		return 1
	})
	for i := range l[1:] {
		if l[i].to > l[i+1].from {
			return false
		}
	}
	return true
}

// forMemory are patterns whose programs have lists of every kind.
func forMemory() []string {
	return []string{
		``, `[a-ce]`, `$`, `a|b|`, `ab[c-f]`, `([a-ce])`, `()`, `(ab)`, `(?:ab)c|(?:d|e)`, `(?P<x>[a-d])*`, `(?P<x>[a-d]e)*`, `[a-c]{3}`,
		`(?:[a-c]|(?P<x>[d-f]|g)*){2,5}?`, `(?:(?:ab){2}c){3,}`, `(?:()|\b){0,4}`, `[^\x{0}-\x{10FFFF}]{4}`, `\A(a(b[ac])?(^c))$`,
	}
}

// TestTreeHandedIn: P9.4: a tree that is handed in is neither changed, nor its spare room, nor kept.
func TestTreeHandedIn(t *testing.T) {
	for _, p := range forMemory() {
		tree := treeOf(t, p)
		want, withRoom := compiled(t, tree), roomyTree(tree)
		got := compiled(t, withRoom)
		if !sameTree(tree, withRoom) || !treeMarked(withRoom) {
			t.Errorf("%q: what was handed in has changed", p)
		}
		spoilTree(withRoom)
		if !same(got, want) {
			t.Errorf("%q: the answer hangs on what was handed in", p)
		}
	}
}

// TestTreesShareNothing: P9.4, W6: all lists of a compiled program have memory of their own, apart from that of each other, of what was handed in, and of another answer.
func TestTreesShareNothing(t *testing.T) {
	for _, p := range forMemory() {
		tree := roomyTree(treeOf(t, p))
		first, second := compiled(t, tree), compiled(t, tree)
		if !apart(slices.Concat(memoryOfTree(tree), memoryOf(first), memoryOf(second))) {
			t.Errorf("%q: memory is shared", p)
		}
		spoil(first)
		if third := compiled(t, tree); !same(second, third) {
			t.Errorf("%q: %s, then %s", p, shown(second), shown(third))
		}
	}
	// One list may stand in what is handed in several times; in the answer none does.
	class := class('a', 'b', 'd', 'e')
	row := cat(many(9, class)...)
	tree := alt(row, star(row), group(1, row), class, repeat(3, 5, false, class))
	if p := compiled(t, tree); !apart(slices.Concat(memoryOfList(row.Subs), memoryOfTree(class), memoryOf(p))) {
		t.Errorf("memory is shared")
	}
}

// lists are programs to be joined.
func lists(t testing.TB) [][]api.Program {
	var all []api.Program
	for _, p := range forMemory() {
		all = append(all, ofPattern(t, p))
	}
	return [][]api.Program{all, {all[1]}, {base()}, {base(), all[3], base()}, all[:2], {all[5], all[5], all[5]}}
}

// TestProgramsHandedIn: P9.4: programs that are handed in are neither changed, nor their spare room, nor kept.
func TestProgramsHandedIn(t *testing.T) {
	for n, l := range lists(t) {
		want := joined(t, l...)
		given := withRoom(l, markOfPrograms())
		for i := range given {
			given[i] = roomy(given[i])
			wantCheck(t, "one with room", given[i], api.OK)
		}
		got := joined(t, given...)
		if !slices.EqualFunc(given, l, same) || roomOf(given).Caps != -7 || slices.ContainsFunc(given, func(p api.Program) bool { return !marked(p) }) {
			t.Errorf("list %d: what was handed in has changed", n)
		}
		for _, p := range given {
			spoil(p)
		}
		clear(given[:cap(given)])
		if !same(got, want) {
			t.Errorf("list %d: the answer hangs on what was handed in", n)
		}
	}
}

// TestJoinsShareNothing: P9.4, W6: all lists of a Join have memory of their own.
func TestJoinsShareNothing(t *testing.T) {
	for n, l := range lists(t) {
		var given []stretch
		for i := range l {
			l[i] = roomy(l[i])
			given = append(given, memoryOf(l[i])...)
		}
		first, second := joined(t, l...), joined(t, l...)
		if !apart(slices.Concat(given, memoryOfList(l), memoryOf(first), memoryOf(second))) {
			t.Errorf("list %d: memory is shared", n)
		}
		spoil(first)
		if third := joined(t, l...); !same(second, third) {
			t.Errorf("list %d: %s, then %s", n, shown(second), shown(third))
		}
	}
	// One list may stand in what is handed in several times; in the answer none does.
	ranges := rangesOf('a', 'b', 'd', 'e')
	p := whole(2, ifRune(1, ranges...), ifRune(2, ranges...), match(0))
	if got := joined(t, p, p, p); !apart(slices.Concat(memoryOfList(ranges), memoryOfList(p.Insts), memoryOf(got))) {
		t.Errorf("memory is shared")
	}
}

// TestCheckedIsLeft: P9.4: Check changes nothing, be it right or wrong.
func TestCheckedIsLeft(t *testing.T) {
	wrong := base()
	wrong.Insts[5].X = 3
	for _, p := range []api.Program{base(), wrong, {}, whole(2, ifRune(0, rangesOf('b', 'a')...))} {
		given := roomy(p)
		want := prog.Check(p)
		wantCheck(t, "one with room", given, want)
		if !same(given, p) || !marked(given) {
			t.Errorf("%s: what was handed in has changed", shown(p))
		}
	}
}

// TestEmptyLists: W5: a nil list is as an empty one.
func TestEmptyLists(t *testing.T) {
	emptied := func(n api.Node) api.Node {
		n.Ranges = append([]api.Range{}, n.Ranges...)
		n.Subs = append([]api.Node{}, n.Subs...)
		return n
	}
	for _, n := range []api.Node{empty(), class(), assert(api.EndText), runeOf('a')} {
		wantProgram(t, emptied(n), compiled(t, n))
		wantProgram(t, star(emptied(n)), compiled(t, star(n)))
		wantProgram(t, cat(emptied(n), group(1, emptied(n))), compiled(t, cat(n, group(1, n))))
	}
	p := base()
	q := copied(p)
	for i := range q.Insts {
		q.Insts[i].Ranges = append([]api.Range{}, q.Insts[i].Ranges...)
	}
	wantCheck(t, "empty lists", q, api.OK)
	wantJoined(t, []api.Program{q, p}, joined(t, p, q))
}

// TestAtOneTime: W2: many calls at one time answer what each answers alone, the arguments in common.
func TestAtOneTime(t *testing.T) {
	var group sync.WaitGroup
	all := lists(t)
	for n, p := range forMemory() {
		tree, l := treeOf(t, p), all[n%len(all)]
		want, wantOfJoin := compiled(t, tree), joined(t, l...)
		for range 4 {
			group.Go(func() {
				for range 20 {
					wantProgram(t, tree, want)
					wantJoined(t, l, wantOfJoin)
					wantCheck(t, "at one time", want, api.OK)
				}
			})
		}
	}
	group.Wait()
}
