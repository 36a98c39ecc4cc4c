package mirror_test

import (
	"slices"
	"strings"
	"sync"
	"testing"
	"unsafe"

	"heron/api"
	"heron/mirror"
	"heron/printer"
)

// example: a pattern, its tree's mirror, and the pattern of that.
type example struct {
	pattern string
	want    api.Node
	printed string
}

// examples are the chapter's, but for the one that is refused.
func examples() []example {
	a, b, c, x := runeOf('a'), runeOf('b'), runeOf('c'), runeOf('x')
	return []example{
		{`ab*c`, cat(c, star(b), a), `cb*a`},
		{`(a)(?P<x>bc)?`, cat(quest(cat(c, b)), a), `(?:cb)?a`},
		{`\Aa$`, cat(assert(api.BeginLine), a, assert(api.EndText)), `^a\z`},
		{`\bx\B`, cat(assert(api.NoWordEdge), x, assert(api.WordEdge)), `\Bx\b`},
		{`a|bc`, alt(a, cat(c, b)), `a|cb`},
		{`(?:ab){2,3}?`, repeat(2, 3, true, cat(b, a)), `(?:ba){2,3}?`},
	}
}

// TestExamples: P8.1, P8.2: what the chapter's examples say.
func TestExamples(t *testing.T) {
	for _, x := range examples() {
		tree := treeOf(t, x.pattern)
		wantMirror(t, tree, x.want)
		if printed, errno := printer.Print(mirrorOf(t, tree)); errno != api.OK || printed != x.printed {
			t.Errorf("%q: %q, %d; want %q", x.pattern, printed, errno, x.printed)
		}
	}
	wantErrno(t, "one in a row", cat(empty()), api.ErrTree)
	wantBack(t, []int{1, 2, 3}, []int{3, 2, 1})
	wantBack(t, nil, nil)
}

// TestKinds: P8.1: each row of the table, with all the fields of its kind.
func TestKinds(t *testing.T) {
	a, b, c, d := runeOf('a'), runeOf('b'), runeOf('c'), runeOf('d')
	for _, tree := range []api.Node{
		empty(), class(), a, class('a', 'c', 'x', 'z'), class(0, 0xD7FF, 0xE000, api.MaxRune),
		alt(a, b), alt(b, a, c), alt(a, a), alt(empty(), empty()), alt(class('a', 'b', 'd', 'e'), empty(), a), alt(alt(a, b), alt(c, d)),
		cat(a, a), cat(empty(), empty()), cat(a, b, a), cat(alt(a, b), c, alt(a, b)),
	} {
		wantMirror(t, tree, tree)
	}
	for _, x := range [][2]api.Node{
		{cat(a, b), cat(b, a)},
		{cat(a, b, c), cat(c, b, a)},
		{cat(a, b, c, d), cat(d, c, b, a)},
		{cat(empty(), a, class('a', 'b', 'd', 'e')), cat(class('a', 'b', 'd', 'e'), a, empty())},
		{cat(cat(a, b), cat(c, d)), cat(cat(d, c), cat(b, a))},
		{cat(a, cat(b, cat(c, d))), cat(cat(cat(d, c), b), a)},
		{cat(a, alt(cat(a, b), c), d), cat(d, alt(cat(b, a), c), a)},
		{alt(cat(a, b), cat(c, d), a), alt(cat(b, a), cat(d, c), a)},
		{star(cat(a, star(cat(b, c)))), star(cat(star(cat(c, b)), a))},
		{cat(star(a), repeat(0, 1, true, b)), cat(repeat(0, 1, true, b), star(a))},
	} {
		wantMirror(t, x[0], x[1])
		wantMirror(t, x[1], x[0])
	}
}

// nth is the class of the one rune that has so many ahead of it in the domain.
func nth(i int) api.Node {
	if i >= 0xD800 {
		i += 0x800
	}
	return runeOf(i)
}

// TestRows: P8.1: NodeCats and NodeAlts of any number of Subs.
func TestRows(t *testing.T) {
	for _, count := range []int{2, 3, 4, 5, 499, 1000, 65536, api.MaxNodes - 1} {
		var there, back []api.Node
		for i := range count {
			there = append(there, nth(i))
			back = append(back, nth(count-1-i))
		}
		wantMirror(t, cat(there...), cat(back...))
		wantMirror(t, alt(there...), alt(there...))
	}
}

// TestAssertions: P8.1: assertions of every kind, by themselves and below each kind of node.
func TestAssertions(t *testing.T) {
	a := runeOf('a')
	for which, flipped := range map[int]int{
		api.BeginText: api.EndText, api.EndText: api.BeginText, api.BeginLine: api.EndLine, api.EndLine: api.BeginLine,
		api.WordEdge: api.WordEdge, api.NoWordEdge: api.NoWordEdge,
	} {
		n, m := assert(which), assert(flipped)
		wantMirror(t, n, m)
		wantMirror(t, cat(n, a), cat(a, m))
		wantMirror(t, cat(a, n, n), cat(m, m, a))
		wantMirror(t, alt(n, a), alt(m, a))
		wantMirror(t, star(n), star(m))
		wantMirror(t, group(1, n), m)
		wantMirror(t, cat(a, repeat(2, 3, true, group(1, alt(a, n)))), cat(repeat(2, 3, true, alt(a, m)), a))
	}
}

// TestCounts: P8.1: counts stay as they are, lazy ones lazy, of what is turned and of what is not.
func TestCounts(t *testing.T) {
	a, ab, ba := runeOf('a'), cat(runeOf('a'), runeOf('b')), cat(runeOf('b'), runeOf('a'))
	for _, c := range [][2]int{{0, -1}, {1, -1}, {2, -1}, {1000, -1}, {0, 0}, {0, 1}, {1, 1}, {0, 2}, {1, 2}, {2, 3}, {7, 7}, {0, 1000}, {999, 1000}, {1000, 1000}} {
		for _, lazy := range []bool{false, true} {
			wantMirror(t, repeat(c[0], c[1], lazy, a), repeat(c[0], c[1], lazy, a))
			wantMirror(t, repeat(c[0], c[1], lazy, empty()), repeat(c[0], c[1], lazy, empty()))
			wantMirror(t, repeat(c[0], c[1], lazy, ab), repeat(c[0], c[1], lazy, ba))
			wantMirror(t, repeat(c[0], c[1], lazy, group(3, ab)), repeat(c[0], c[1], lazy, ba))
			wantMirror(t, repeat(2, 5, !lazy, repeat(c[0], c[1], lazy, ab)), repeat(2, 5, !lazy, repeat(c[0], c[1], lazy, ba)))
		}
	}
}

// TestGroups: P8.1: no group is left, wherever it stands; what stood in it takes its place as it is, also in its like.
func TestGroups(t *testing.T) {
	a, b, c := runeOf('a'), runeOf('b'), runeOf('c')
	ab, ba, aOrB := cat(a, b), cat(b, a), alt(a, b)
	for _, g := range []func(api.Node) api.Node{
		func(n api.Node) api.Node { return group(1, n) },
		func(n api.Node) api.Node { return group(api.MaxGroups, n) },
		func(n api.Node) api.Node { return named(1, "x", n) },
		func(n api.Node) api.Node { return named(7, strings.Repeat("n", api.MaxName), n) },
		func(n api.Node) api.Node { return group(1, group(2, n)) },
		func(n api.Node) api.Node { return named(2, "x", group(2, named(1, "y", n))) },
	} {
		for _, x := range [][2]api.Node{{a, a}, {empty(), empty()}, {class(), class()}, {ab, ba}, {aOrB, aOrB}, {star(ab), star(ba)}, {assert(api.EndText), assert(api.BeginText)}} {
			wantMirror(t, g(x[0]), x[1])
			wantMirror(t, cat(g(x[0]), c), cat(c, x[1]))
			wantMirror(t, cat(c, g(x[0])), cat(x[1], c))
			wantMirror(t, alt(g(x[0]), c), alt(x[1], c))
			wantMirror(t, alt(c, g(x[0])), alt(c, x[1]))
			wantMirror(t, star(g(x[0])), star(x[1]))
			wantMirror(t, repeat(2, 3, true, g(x[0])), repeat(2, 3, true, x[1]))
			wantMirror(t, g(cat(c, g(x[0]))), cat(x[1], c))
			wantMirror(t, g(alt(g(x[0]), g(x[0]))), alt(x[1], x[1]))
		}
	}
	// A sound tree has groups in any order, some of them several times.
	wantMirror(t, cat(group(9, a), group(2, ab), group(9, c)), cat(c, ba, a))
}

// TestDepths: P8.1: trees of MaxDepth nodes one below another, and of one more.
func TestDepths(t *testing.T) {
	a, b, most := runeOf('a'), runeOf('b'), api.MaxDepth-1
	ab, ba := cat(a, b), cat(b, a)
	inGroup := func(n api.Node) api.Node { return group(1, n) }
	first := func(n api.Node) api.Node { return cat(n, a, b) }
	last := func(n api.Node) api.Node { return cat(b, a, n) }
	oneWay := func(n api.Node) api.Node { return alt(a, n, b) }
	for what, c := range map[string]struct {
		above, mirrored func(api.Node) api.Node
		deep            int // of the mirror: nodes above the last one
	}{
		"stars": {star, star, most - 1}, "groups": {inGroup, star, 0}, "first ones": {first, last, most - 1}, "last ones": {last, first, most - 1}, "ways": {oneWay, oneWay, most - 1},
	} {
		wantMirror(t, chain(most-1, ab, c.above), chain(c.deep, ba, c.mirrored))
		wantErrno(t, what+", at the limit", chain(most, a, c.above), api.OK)
		wantErrno(t, what+", above the limit", chain(most+1, a, c.above), api.ErrTree)
		wantErrno(t, what+", a row above the limit", chain(most, ab, c.above), api.ErrTree)
	}
	wantMirror(t, chain(most, assert(api.BeginText), inGroup), assert(api.EndText))
	mixed := func(n api.Node) api.Node { return group(1, cat(a, star(n))) }
	wantMirror(t, chain(3333, a, mixed), chain(3333, a, func(n api.Node) api.Node { return cat(star(n), a) }))
}

// TestWholeSizes: P8.1: trees of MaxNodes nodes, and of one more.
func TestWholeSizes(t *testing.T) {
	a := runeOf('a')
	for what, above := range map[string]func(...api.Node) api.Node{"cat": cat, "alt": alt} {
		wantErrno(t, what+" at the limit", above(many(api.MaxNodes-1, a)...), api.OK)
		wantErrno(t, what+" above the limit", above(many(api.MaxNodes, a)...), api.ErrTree)
		wantErrno(t, what+" of groups at the limit", star(above(many(api.MaxNodes/2-1, group(1, a))...)), api.OK)
		wantErrno(t, what+" of groups above the limit", star(star(star(above(many(api.MaxNodes/2-1, group(1, a))...)))), api.ErrTree)
	}
	// Counts are not unfolded, however great they would come.
	huge := chain(9000, cat(a, runeOf('b')), func(n api.Node) api.Node { return repeat(1000, 1000, false, n) })
	wantMirror(t, huge, chain(9000, cat(runeOf('b'), a), func(n api.Node) api.Node { return repeat(1000, 1000, false, n) }))
}

// unsound are trees that are refused.
func unsound() map[string]api.Node {
	within := cat(empty(), empty())
	within.Subs[1] = within
	return map[string]api.Node{
		"no kind":                  {},
		"an unknown kind":          {Kind: 99},
		"a kind below":             {Kind: -1},
		"an empty with more":       {Kind: api.NodeEmpty, Subs: []api.Node{empty()}},
		"a lazy empty":             {Kind: api.NodeEmpty, Lazy: true},
		"an empty that asserts":    {Kind: api.NodeEmpty, Assert: api.BeginText},
		"no class":                 class('b', 'a'),
		"half a class":             class(0, 0x10FFFF),
		"a class that asserts":     {Kind: api.NodeClass, Assert: api.EndLine},
		"no assertion":             assert(3),
		"none of the assertions":   assert(0),
		"an unknown assertion":     assert(64),
		"an assertion with ranges": {Kind: api.NodeAssert, Assert: 1, Ranges: []api.Range{{Lo: 1, Hi: 1}}},
		"none in a row":            cat(),
		"one in a row":             cat(empty()),
		"none to choose":           alt(),
		"one to choose":            alt(empty()),
		"less than none":           repeat(-1, 2, false, empty()),
		"less than any":            repeat(0, -2, false, empty()),
		"more than most":           repeat(3, 2, false, empty()),
		"too often":                repeat(0, api.MaxCount+1, false, empty()),
		"at least too often":       repeat(api.MaxCount+1, -1, false, empty()),
		"none repeated":            {Kind: api.NodeRepeat, Max: 1},
		"two repeated":             {Kind: api.NodeRepeat, Max: 1, Subs: many(2, empty())},
		"none in a group":          {Kind: api.NodeGroup, Index: 1},
		"two in a group":           {Kind: api.NodeGroup, Index: 1, Subs: many(2, empty())},
		"no group's Index":         group(0, empty()),
		"too great an Index":       group(api.MaxGroups+1, empty()),
		"no name":                  named(1, "1", empty()),
		"too long a name":          named(1, strings.Repeat("n", api.MaxName+1), empty()),
		"a group that asserts":     {Kind: api.NodeGroup, Index: 1, Assert: 1, Subs: many(1, empty())},
		"in itself":                within,
		"too many nodes":           cat(many(api.MaxNodes, empty())...),
		"too deep":                 chain(api.MaxDepth, empty(), star),
	}
}

// TestErrors: P8.1: trees that are not sound, also where nothing would be seen of that in the mirror.
func TestErrors(t *testing.T) {
	for what, tree := range unsound() {
		wantErrno(t, what, tree, api.ErrTree)
		wantErrno(t, what+", in a group", group(1, tree), api.ErrTree)
		wantErrno(t, what+", first", cat(tree, empty()), api.ErrTree)
		wantErrno(t, what+", last", alt(empty(), tree), api.ErrTree)
		wantErrno(t, what+", below", star(group(1, alt(empty(), tree))), api.ErrTree)
	}
}

// TestBack: P8.2, P8.5: texts of no rune, of one, and of more, longer ones than are searched too; any numbers.
func TestBack(t *testing.T) {
	least, most := -int(^uint(0)>>1)-1, int(^uint(0)>>1)
	wantBack(t, []int{}, nil)
	wantBack(t, []int{7}, []int{7})
	wantBack(t, []int{7, 8}, []int{8, 7})
	wantBack(t, []int{0, 0, 1, 0}, []int{0, 1, 0, 0})
	wantBack(t, []int{'a', 10, 0xD800, -1, api.MaxRune + 1, least, most}, []int{most, least, api.MaxRune + 1, -1, 0xD800, 10, 'a'})
	for _, n := range []int{2, 3, 64, 65, 1000, api.MaxText, api.MaxText + 1} {
		text := make([]int, n)
		for i := range text {
			text[i] = 3*i - 7
		}
		back := mirror.Back(text)
		if len(back) != n {
			t.Fatalf("of %d runes %d are left", n, len(back))
		}
		for i := range back {
			if back[i] != text[n-1-i] {
				t.Fatalf("of %d runes %d is %d; want %d", n, i, back[i], text[n-1-i])
			}
		}
		if !slices.Equal(mirror.Back(back), text) {
			t.Errorf("%d runes do not come back", n)
		}
	}
}

// withRoom is a tree whose lists have spare room, marked.
func withRoom(n api.Node) api.Node {
	n.Ranges = append(slices.Clone(n.Ranges), api.Range{Lo: -7, Hi: -7})[:len(n.Ranges)]
	subs := append(slices.Clone(n.Subs), api.Node{Kind: -7})[:len(n.Subs)]
	for i := range subs {
		subs[i] = withRoom(subs[i])
	}
	n.Subs = subs
	return n
}

// roomMarked tells whether the spare room of a tree is as withRoom made it.
func roomMarked(n api.Node) bool {
	ranges, subs := n.Ranges[:len(n.Ranges)+1], n.Subs[:len(n.Subs)+1]
	if ranges[len(n.Ranges)] != (api.Range{Lo: -7, Hi: -7}) || subs[len(n.Subs)].Kind != -7 {
		return false
	}
	return !slices.ContainsFunc(n.Subs, func(s api.Node) bool { return !roomMarked(s) })
}

// spoil makes nothing of a tree, in its own memory, spare room too.
func spoil(n api.Node) {
	for _, sub := range n.Subs {
		spoil(sub)
	}
	clear(n.Subs[:cap(n.Subs)])
	clear(n.Ranges[:cap(n.Ranges)])
}

// forMemory are patterns whose trees have mirrors that are as they are, or others.
func forMemory() []string {
	return []string{
		``, `[a-ce]`, `$`, `a|b|`, `ab[c-f]`, `aba`, `([a-ce])`, `()`, `(ab)`, `(?:ab)c|(?:d|e)`, `(?P<x>[a-d])*`, `(?P<x>[a-d]e)*`, `[a-c]{3}`,
		`(?:[a-c]|(?P<x>[d-f]|g)*){2,5}?`, `(?:(?:ab){2}c){3,}`, `(?:()|\b){0,4}`, `[^\x{0}-\x{10FFFF}]{4}`, `\A(a(b[ac])?(^c))$`,
	}
}

// TestHandedIn: P8.3: what is handed in is neither changed, nor its spare room, nor kept.
func TestHandedIn(t *testing.T) {
	for _, p := range forMemory() {
		tree := treeOf(t, p)
		want, roomy := mirrorOf(t, tree), withRoom(tree)
		got := mirrorOf(t, roomy)
		if !same(tree, roomy) || !roomMarked(roomy) {
			t.Errorf("%q: what was handed in has changed", p)
		}
		spoil(roomy)
		if !same(got, want) {
			t.Errorf("%q: the answer hangs on what was handed in", p)
		}
	}
	for n := range 9 {
		whole := []int{1, 2, 3, 4, 5, 6, 7, 8, 9}
		back := mirror.Back(whole[:n])
		if !slices.Equal(whole, []int{1, 2, 3, 4, 5, 6, 7, 8, 9}) {
			t.Errorf("of %d runes: %v is left", n, whole)
		}
		clear(whole)
		for i, r := range back {
			if r != n-i {
				t.Errorf("of %d runes: %v hangs on what was handed in", n, back)
			}
		}
	}
}

// stretch is memory, from its first byte to behind its last one.
type stretch struct{ from, to uintptr }

// memoryOfList is that of a list, spare room too.
func memoryOfList[T any](l []T) []stretch {
	if cap(l) == 0 {
		return nil
	}
	var one T
	from := uintptr(unsafe.Pointer(unsafe.SliceData(l)))
	return []stretch{{from, from + uintptr(cap(l))*unsafe.Sizeof(one)}}
}

// memoryOf is that of all the lists of a tree.
func memoryOf(n api.Node) []stretch {
	l := append(memoryOfList(n.Ranges), memoryOfList(n.Subs)...)
	for _, sub := range n.Subs {
		l = append(l, memoryOf(sub)...)
	}
	return l
}

// apart tells whether no two of some memory have a byte in common.
func apart(l []stretch) bool {
	slices.SortFunc(l, func(a, b stretch) int {
		if a.from < b.from {
			return -1
		}
		return 1
	})
	for i := range l[1:] {
		if l[i].to > l[i+1].from {
			return false
		}
	}
	return true
}

// TestNothingShared: P8.3, W6: all lists of an answer have memory of their own, apart from that of each other, of what was handed in, and of another answer.
func TestNothingShared(t *testing.T) {
	for _, p := range forMemory() {
		tree := withRoom(treeOf(t, p))
		first, second := mirrorOf(t, tree), mirrorOf(t, tree)
		if !apart(slices.Concat(memoryOf(tree), memoryOf(first), memoryOf(second))) {
			t.Errorf("%q: memory is shared", p)
		}
		spoil(first)
		if third := mirrorOf(t, tree); !same(second, third) {
			t.Errorf("%q: %s, then %s", p, shown(second), shown(third))
		}
	}
	// One list may stand in what is handed in several times; in the answer none does.
	class := class('a', 'b', 'd', 'e')
	row := cat(many(9, class)...)
	tree := alt(row, star(row), group(1, row), class, group(2, class))
	if m := mirrorOf(t, tree); !apart(slices.Concat(memoryOfList(row.Subs), memoryOf(class), memoryOf(m))) {
		t.Errorf("memory is shared")
	}
	for n := range 5 {
		text := []int{1, 2, 3, 4, 5}[:n]
		if first, second := mirror.Back(text), mirror.Back(text); !apart(slices.Concat(memoryOfList(text), memoryOfList(first), memoryOfList(second))) {
			t.Errorf("of %d runes: memory is shared", n)
		}
	}
}

// TestEmptyLists: W5: a nil list is as an empty one.
func TestEmptyLists(t *testing.T) {
	for _, n := range []api.Node{empty(), class(), assert(api.EndText), runeOf('a'), star(empty()), group(1, class()), cat(empty(), runeOf('a')), alt(class(), empty())} {
		other := changed(n, func(n api.Node) api.Node {
			n.Ranges = append([]api.Range{}, n.Ranges...)
			n.Subs = append([]api.Node{}, n.Subs...)
			return n
		})
		wantMirror(t, other, mirrorOf(t, n))
	}
}

// TestAtOneTime: W2: many calls at one time answer what each answers alone, the arguments in common.
func TestAtOneTime(t *testing.T) {
	var group sync.WaitGroup
	text := runesOf("abcdefghi")
	back := mirror.Back(text)
	for _, p := range forMemory() {
		tree := treeOf(t, p)
		want := mirrorOf(t, tree)
		for range 4 {
			group.Go(func() {
				for range 20 {
					wantMirror(t, tree, want)
					wantBack(t, text, back)
				}
			})
		}
	}
	group.Wait()
}
