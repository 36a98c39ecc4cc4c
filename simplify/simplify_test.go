package simplify_test

import (
	"slices"
	"sync"
	"testing"
	"unsafe"

	"heron/api"
	"heron/simplify"
)

// example: a pattern, its tree's simple form, and the size of that.
type example struct {
	pattern string
	want    api.Node
	size    int
}

// examples are the chapter's, but for the one that is refused.
func examples() []example {
	a, b, c, d, e := runeOf('a'), runeOf('b'), runeOf('c'), runeOf('d'), runeOf('e')
	return []example{
		{`a{2,4}`, cat(a, a, quest(cat(a, quest(a)))), 8},
		{`a{2,4}?`, lazy(cat(a, a, quest(cat(a, quest(a))))), 8},
		{`a{3,}`, cat(a, a, plus(a)), 5},
		{`a{0}`, empty(), 1},
		{`a{1}`, a, 1},
		{`(?:)`, empty(), 1},
		{`(?:ab){2}`, cat(a, b, a, b), 5},
		{`a(?:b|(?:c|d))e`, cat(a, alt(b, c, d), e), 7},
		{`(a){2}`, cat(group(1, a), group(1, a)), 5},
		{`(?:(?:){5})*`, star(empty()), 2},
	}
}

// TestExamples: P7.1, P7.2: what the chapter's examples say.
func TestExamples(t *testing.T) {
	for _, x := range examples() {
		tree := treeOf(t, x.pattern)
		wantSimple(t, tree, x.want)
		if size := simplify.Size(tree); size != x.size {
			t.Errorf("%q: size %d; want %d", x.pattern, size, x.size)
		}
	}
	wantErrno(t, "counts in counts", treeOf(t, `(?:(?:a{1000}){1000}){1000}`), api.ErrBig, api.MaxNodes+1)
}

// TestKinds: P7.2: nodes that stay, and those above them, with all their fields.
func TestKinds(t *testing.T) {
	a, b := runeOf('a'), runeOf('b')
	for _, tree := range []api.Node{
		empty(), class(), a, class('a', 'c', 'x', 'z'), class(0, 0xD7FF, 0xE000, api.MaxRune),
		assert(api.BeginText), assert(api.EndText), assert(api.BeginLine), assert(api.EndLine), assert(api.WordEdge), assert(api.NoWordEdge),
		group(1, a), named(api.MaxGroups, "x_9", class('a', 'b')), group(7, empty()), group(2, group(2, group(1, b))),
		cat(a, b), cat(b, a), cat(a, a), alt(a, b), alt(b, a), alt(a, a), alt(empty(), empty()), alt(a, empty(), b),
		star(a), plus(a), quest(a), lazy(star(a)), lazy(plus(a)), lazy(quest(a)), star(empty()), plus(empty()), quest(empty()),
		star(star(a)), lazy(star(plus(a))), star(lazy(plus(quest(a)))), quest(quest(a)),
		star(cat(a, b)), plus(alt(a, b)), group(1, cat(a, alt(b, cat(a, b)))), alt(cat(a, b), cat(b, a)), cat(alt(a, b), alt(b, a)),
		cat(a, group(1, cat(a, b)), star(cat(a, b))), alt(a, group(1, alt(a, b)), star(alt(a, b))),
	} {
		wantSimple(t, tree, tree)
	}
}

// opts is a{0,count}, by hand.
func opts(count int, y ...api.Node) api.Node {
	form := quest(y[0])
	if len(y) > 1 {
		form = quest(cat(y...))
	}
	for range count - 1 {
		form = quest(cat(append(slices.Clone(y), form)...))
	}
	return form
}

// TestCounts: P7.2: each row of counts, lazy or not, of what is a node by itself, of a row, and of nothing.
func TestCounts(t *testing.T) {
	a, b, e := runeOf('a'), runeOf('b'), empty()
	ab := cat(a, b)
	for _, c := range []struct {
		least, most            int
		ofNode, ofRow, ofEmpty api.Node
	}{
		{0, -1, star(a), star(ab), star(e)},
		{1, -1, plus(a), plus(ab), plus(e)},
		{2, -1, cat(a, plus(a)), cat(a, b, plus(ab)), plus(e)},
		{4, -1, cat(a, a, a, plus(a)), cat(a, b, a, b, a, b, plus(ab)), plus(e)},
		{1000, -1, cat(append(many(999, a), plus(a))...), cat(append(slices.Repeat([]api.Node{a, b}, 999), plus(ab))...), plus(e)},
		{0, 0, e, e, e},
		{1, 1, a, ab, e},
		{2, 2, cat(a, a), cat(a, b, a, b), e},
		{1000, 1000, cat(many(1000, a)...), cat(slices.Repeat([]api.Node{a, b}, 1000)...), e},
		{0, 1, quest(a), quest(ab), quest(e)},
		{0, 2, quest(cat(a, quest(a))), quest(cat(a, b, quest(ab))), quest(quest(e))},
		{0, 3, quest(cat(a, quest(cat(a, quest(a))))), quest(cat(a, b, quest(cat(a, b, quest(ab))))), quest(quest(quest(e)))},
		{0, 1000, opts(1000, a), opts(1000, a, b), chain(1000, e, quest)},
		{1, 2, cat(a, quest(a)), cat(a, b, quest(ab)), quest(e)},
		{1, 3, cat(a, quest(cat(a, quest(a)))), cat(a, b, quest(cat(a, b, quest(ab)))), quest(quest(e))},
		{3, 4, cat(a, a, a, quest(a)), cat(a, b, a, b, a, b, quest(ab)), quest(e)},
		{999, 1000, cat(append(many(999, a), quest(a))...), cat(append(slices.Repeat([]api.Node{a, b}, 999), quest(ab))...), quest(e)},
	} {
		for _, x := range []struct{ y, want api.Node }{{a, c.ofNode}, {ab, c.ofRow}, {e, c.ofEmpty}} {
			wantSimple(t, repeat(c.least, c.most, false, x.y), x.want)
			wantSimple(t, repeat(c.least, c.most, true, x.y), lazy(x.want))
		}
	}
}

// TestCountsOfOthers: P7.2: counts of each other kind, and within one another; each loop is as lazy as its own NodeRepeat.
func TestCountsOfOthers(t *testing.T) {
	a, b := runeOf('a'), runeOf('b')
	or, g, s, ls := alt(a, b), group(3, cat(a, b)), star(a), lazy(star(a))
	wantSimple(t, repeat(1, 2, false, or), cat(or, quest(or)))
	wantSimple(t, repeat(2, -1, false, g), cat(g, plus(g)))
	wantSimple(t, repeat(2, 3, true, s), cat(s, s, repeat(0, 1, true, s)))
	wantSimple(t, repeat(2, 3, false, ls), cat(ls, ls, quest(ls)))
	wantSimple(t, times(2, times(2, a)), cat(a, a, a, a))
	wantSimple(t, times(2, repeat(1, 2, false, a)), cat(a, quest(a), a, quest(a)))
	wantSimple(t, repeat(0, 2, false, repeat(0, 2, true, a)), opts(2, lazy(opts(2, a))))
	wantSimple(t, repeat(0, 2, true, repeat(2, -1, false, a)), repeat(0, 1, true, cat(a, plus(a), repeat(0, 1, true, cat(a, plus(a))))))
	wantSimple(t, repeat(0, -1, true, times(1, star(a))), repeat(0, -1, true, star(a)))
	wantSimple(t, times(3, times(0, a)), empty())
	wantSimple(t, repeat(2, 4, false, times(0, a)), quest(quest(empty())))
	wantSimple(t, times(0, times(3, a)), empty())
	wantSimple(t, times(1, times(1, times(1, or))), or)
	wantSimple(t, group(1, times(0, a)), group(1, empty()))
	wantSimple(t, star(times(2, a)), star(cat(a, a)))
}

// TestRows: P7.2: a NodeCat within a NodeCat, also where it becomes one, and what is left of one without each NodeEmpty.
func TestRows(t *testing.T) {
	a, b, c, d, e := runeOf('a'), runeOf('b'), runeOf('c'), runeOf('d'), empty()
	wantSimple(t, cat(a, cat(b, c), d), cat(a, b, c, d))
	wantSimple(t, cat(cat(cat(a, b), c), d), cat(a, b, c, d))
	wantSimple(t, cat(a, cat(b, cat(c, d))), cat(a, b, c, d))
	wantSimple(t, cat(cat(a, b), cat(c, d)), cat(a, b, c, d))
	wantSimple(t, cat(a, times(2, b), c), cat(a, b, b, c))
	wantSimple(t, cat(a, times(1, cat(b, c)), d), cat(a, b, c, d))
	wantSimple(t, cat(a, repeat(2, -1, false, cat(b, c)), d), cat(a, b, c, plus(cat(b, c)), d))
	wantSimple(t, cat(a, repeat(1, 2, false, b), c), cat(a, b, quest(b), c))
	wantSimple(t, cat(e, e), e)
	wantSimple(t, cat(e, cat(e, e), e), e)
	wantSimple(t, cat(e, a), a)
	wantSimple(t, cat(a, e), a)
	wantSimple(t, cat(e, a, e, b, e), cat(a, b))
	wantSimple(t, cat(e, cat(a, e)), a)
	wantSimple(t, cat(e, cat(a, b)), cat(a, b))
	wantSimple(t, cat(times(0, a), b), b)
	wantSimple(t, cat(times(0, a), times(0, b)), e)
	wantSimple(t, cat(times(9, e), times(9, cat(e, e)), a), a)
	wantSimple(t, cat(e, star(a)), star(a))
	wantSimple(t, cat(e, alt(a, e)), alt(a, e))
	wantSimple(t, cat(group(1, e), e), group(1, e))
	wantSimple(t, cat(star(e), e, class()), cat(star(e), class()))
	// What stands deeper stays, as do an empty group and an assertion.
	wantSimple(t, cat(a, star(cat(b, c)), group(1, cat(c, d)), alt(cat(a, b), c)), cat(a, star(cat(b, c)), group(1, cat(c, d)), alt(cat(a, b), c)))
	wantSimple(t, cat(group(1, e), assert(api.WordEdge)), cat(group(1, e), assert(api.WordEdge)))
}

// TestAlternatives: P7.2: a NodeAlt within a NodeAlt, also where it becomes one; each NodeEmpty stays.
func TestAlternatives(t *testing.T) {
	a, b, c, d, e := runeOf('a'), runeOf('b'), runeOf('c'), runeOf('d'), empty()
	wantSimple(t, alt(a, alt(b, c), d), alt(a, b, c, d))
	wantSimple(t, alt(alt(alt(a, b), c), d), alt(a, b, c, d))
	wantSimple(t, alt(a, alt(b, alt(c, d))), alt(a, b, c, d))
	wantSimple(t, alt(a, times(1, alt(b, c)), d), alt(a, b, c, d))
	wantSimple(t, alt(a, cat(e, alt(b, c)), d), alt(a, b, c, d))
	wantSimple(t, alt(cat(times(1, alt(a, b)), times(0, c)), d), alt(a, b, d))
	wantSimple(t, alt(times(2, alt(a, b)), c), alt(cat(alt(a, b), alt(a, b)), c))
	wantSimple(t, alt(alt(e, a), e, alt(e, e)), alt(e, a, e, e, e))
	wantSimple(t, alt(times(0, a), cat(e, e)), alt(e, e))
	wantSimple(t, alt(a, star(alt(b, c)), group(1, alt(c, d)), cat(a, alt(b, c))), alt(a, star(alt(b, c)), group(1, alt(c, d)), cat(a, alt(b, c))))
	wantSimple(t, alt(cat(a, cat(b, c)), d), alt(cat(a, b, c), d))
}

// TestGroups: P7.6: groups stay, with Index and Name, once for each copy, but for those whose count is 0.
func TestGroups(t *testing.T) {
	a, b := runeOf('a'), runeOf('b')
	x, y := named(1, "x", a), named(2, "y", b)
	wantSimple(t, repeat(2, 3, false, cat(x, y)), cat(x, y, x, y, quest(cat(x, y))))
	wantSimple(t, cat(times(0, x), y), y)
	wantSimple(t, cat(x, times(0, y)), x)
	wantSimple(t, times(0, named(1, "x", y)), empty())
	wantSimple(t, named(1, "x", times(0, y)), named(1, "x", empty()))
	wantSimple(t, times(3, times(0, x)), empty())
	wantSimple(t, repeat(0, 0, true, x), empty())
	wantSimple(t, star(times(0, x)), star(empty()))
	wantSimple(t, quest(x), quest(x))
	// A sound tree has groups in any order, some of them several times.
	wantSimple(t, cat(group(9, a), cat(group(2, b), group(9, b))), cat(group(9, a), group(2, b), group(9, b)))
}

// sized: a tree, and the size of its simple form, reckoned by hand.
type sized struct {
	tree api.Node
	size int
}

// treesOfSizes are trees of each kind and of each row of counts.
func treesOfSizes() map[string]sized {
	a, ab, e := runeOf('a'), cat(runeOf('a'), runeOf('b')), empty()
	return map[string]sized{
		"empty": {e, 1}, "class": {class('a', 'c', 'e', 'g'), 1}, "no rune": {class(), 1}, "assert": {assert(api.EndLine), 1},
		"group": {group(1, a), 2}, "cat": {ab, 3}, "alt": {alt(ab, a, a), 6}, "groups": {group(1, group(2, ab)), 5},
		"cat in cat": {cat(ab, a, ab), 6}, "alt in alt": {alt(alt(a, a), times(1, alt(a, ab))), 7}, "cats of nothing": {cat(e, cat(e, e)), 1}, "alt of nothing": {alt(e, cat(e, e)), 3},
		"0 -1": {star(ab), 4}, "1 -1": {plus(ab), 4}, "2 -1": {repeat(2, -1, true, ab), 7}, "1000 -1": {repeat(1000, -1, false, ab), 1 + 2*999 + 4}, "1000 -1 of one": {repeat(1000, -1, false, a), 1 + 999 + 2}, "1000 -1 of nothing": {repeat(1000, -1, false, e), 2},
		"0 0": {times(0, ab), 1}, "1 1": {times(1, ab), 3}, "2 2": {repeat(2, 2, true, ab), 5}, "1000 1000": {times(1000, ab), 2001}, "1000 1000 of one": {times(1000, a), 1001}, "1000 1000 of nothing": {times(1000, e), 1},
		"0 1": {quest(ab), 4}, "0 2": {repeat(0, 2, true, ab), 8}, "0 2 of one": {repeat(0, 2, false, a), 5}, "1 2": {repeat(1, 2, false, ab), 7}, "3 5": {repeat(3, 5, false, ab), 1 + 6 + 8}, "3 5 of one": {repeat(3, 5, false, a), 1 + 3 + 5},
		"0 1000": {repeat(0, 1000, false, ab), 4000}, "0 1000 of one": {repeat(0, 1000, false, a), 2999}, "0 1000 of nothing": {repeat(0, 1000, false, e), 1001}, "0 1000 of an alt": {repeat(0, 1000, false, alt(a, a)), 4 + 999*5},
		"500 1000": {repeat(500, 1000, false, ab), 1 + 1000 + 2000}, "500 1000 of one": {repeat(500, 1000, false, a), 1 + 500 + 1499}, "500 1000 of nothing": {repeat(500, 1000, false, e), 501},
		"counts in counts": {repeat(2, 4, false, repeat(3, -1, false, repeat(0, 2, false, a))), 1 + 2*16 + 2*(1+17)},
		"much":             {fill(100000), 100001}, "much in a star": {star(fill(150000)), 150002}, "much, often": {repeat(0, 900, false, fill(200)), 900 * 202},
		"none of much": {times(0, cat(many(100000, a)...)), 1}, "nothing of much": {cat(many(100000, e)...), 1},
	}
}

// TestSizes: P7.1, P7.2: so many nodes beside a tree, that there are MaxNodes, and one more.
func TestSizes(t *testing.T) {
	for what, c := range treesOfSizes() {
		wantErrno(t, what, c.tree, api.OK, c.size)
		s := simple(t, c.tree)
		if nodesOf(s) != c.size {
			t.Errorf("%s: %d nodes; want %d", what, nodesOf(s), c.size)
		}
		rest := api.MaxNodes - 2 - c.size
		wantErrno(t, what+" at the limit", cat(fill(rest), group(1, c.tree)), api.OK, api.MaxNodes)
		wantErrno(t, what+" above the limit", cat(fill(rest), group(1, c.tree), runeOf('a')), api.ErrBig, api.MaxNodes+1)
		wantErrno(t, what+" in more", cat(fill(rest), group(2, group(1, c.tree))), api.ErrBig, api.MaxNodes+1)
	}
}

// TestWholeSizes: P7.1, P7.2: what has MaxNodes nodes by itself, and one more.
func TestWholeSizes(t *testing.T) {
	a := runeOf('a')
	for what, c := range map[string]struct{ fits, over api.Node }{
		"a row":        {fill(api.MaxNodes - 1), fill(api.MaxNodes)},
		"a long row":   {cat(many(api.MaxNodes-1, a)...), cat(append(many(api.MaxNodes-4, a), times(4, a))...)},
		"many ways":    {alt(many(api.MaxNodes-1, a)...), alt(append(many(api.MaxNodes-5, a), times(4, a))...)},
		"a star":       {star(fill(api.MaxNodes - 2)), star(fill(api.MaxNodes - 1))},
		"a group":      {group(1, fill(api.MaxNodes-2)), group(1, fill(api.MaxNodes-1))},
		"an alt":       {alt(a, fill(api.MaxNodes-3)), alt(a, fill(api.MaxNodes-2))},
		"alts":         {alt(alt(a, fill(99995)), alt(a, fill(100000))), alt(alt(a, fill(99996)), alt(a, fill(100000)))},
		"rows":         {cat(fill(99999), fill(100000)), cat(fill(100000), fill(100000))},
		"opts":         {repeat(0, 1000, false, fill(198)), group(1, repeat(0, 1000, false, fill(198)))},
		"lazy opts":    {repeat(0, 1000, true, fill(198)), cat(a, repeat(0, 1000, true, cat(a, fill(197))))},
		"opts of alts": {repeat(0, 1000, false, alt(many(197, a)...)), star(star(repeat(0, 1000, false, alt(many(197, a)...))))},
		"many":         {repeat(999, -1, false, fill(200)), repeat(1000, -1, false, fill(200))},
		"times":        {times(1000, fill(199)), times(1000, fill(200))},
	} {
		size := nodesOf(simple(t, c.fits))
		if size > api.MaxNodes || size < api.MaxNodes-1000 {
			t.Errorf("%s: %d nodes: not near the limit", what, size)
		}
		wantErrno(t, what, c.fits, api.OK, size)
		wantErrno(t, what+", and more", c.over, api.ErrBig, api.MaxNodes+1)
	}
}

// TestHugeSizes: P7.1: counts within counts, whose sizes leave the range of numbers, come to one above the limit, however they wrap round.
func TestHugeSizes(t *testing.T) {
	a, ab := runeOf('a'), cat(runeOf('a'), runeOf('b'))
	for _, y := range []api.Node{a, ab, alt(a, a), group(1, a), star(empty())} {
		for deep := 3; deep < 90; deep++ {
			for _, c := range [][2]int{{1000, 1000}, {1000, -1}, {0, 1000}, {500, 1000}, {256, 256}, {0, 256}, {64, -1}, {999, 1000}} {
				tree := chain(deep, y, func(n api.Node) api.Node { return repeat(c[0], c[1], false, n) })
				wantErrno(t, shown(tree), tree, api.ErrBig, api.MaxNodes+1)
				wantErrno(t, "none of "+shown(tree), times(0, tree), api.OK, 1)
			}
		}
	}
	huge := chain(40, a, func(n api.Node) api.Node { return times(1000, n) })
	for what, tree := range map[string]api.Node{
		"once": times(1, huge), "in a star": star(huge), "in a group": group(1, huge), "beside": cat(a, huge, a), "one way": alt(a, huge, a),
		"often side by side": cat(many(4000, huge)...), "many ways": alt(many(4000, huge)...), "deep": chain(9000, huge, star), "in opts": repeat(0, 2, false, huge),
	} {
		wantErrno(t, what, tree, api.ErrBig, api.MaxNodes+1)
		wantErrno(t, what+", none", times(0, tree), api.OK, 1)
		wantErrno(t, what+", none, beside", cat(a, times(0, tree), star(a)), api.OK, 4)
	}
}

// deep: a tree, and how many nodes of its simple form lie one below another, reckoned by hand.
type deep struct {
	tree  api.Node
	depth int
}

// treesOfDepths are trees of each kind and of each row of counts, some of them deep on one side.
func treesOfDepths() map[string]deep {
	a, ab, e := runeOf('a'), cat(runeOf('a'), runeOf('b')), empty()
	down := chain(50, a, star) // 51 nodes
	return map[string]deep{
		"leaf": {a, 1}, "cat": {ab, 2}, "alt": {alt(a, ab), 3}, "star": {star(ab), 3}, "group": {group(1, a), 2},
		"2 2": {times(2, a), 2}, "2 2 of a row": {times(2, ab), 2}, "2 -1": {repeat(2, -1, false, a), 3}, "2 -1 of a row": {repeat(2, -1, false, ab), 4}, "9 -1 of nothing": {repeat(9, -1, false, e), 2},
		"0 1": {quest(a), 2}, "0 2": {repeat(0, 2, false, a), 4}, "0 2 of a row": {repeat(0, 2, false, ab), 5}, "0 3": {repeat(0, 3, true, a), 6}, "0 3 of a row": {repeat(0, 3, true, ab), 7},
		"0 3 of nothing": {repeat(0, 3, false, e), 4}, "0 1000 of nothing": {repeat(0, 1000, false, e), 1001},
		"0 1000": {repeat(0, 1000, false, a), 2000}, "0 1000 of a row": {repeat(0, 1000, false, ab), 2001}, "1 1000": {repeat(1, 1000, false, a), 1999}, "999 1000": {repeat(999, 1000, false, a), 3},
		"0 3 of what is deep": {repeat(0, 3, false, down), 5 + 51}, "0 3 of a deep row": {repeat(0, 3, false, cat(a, down)), 5 + 52},
		"the first one deep": {cat(down, a, ab), 52}, "the last one deep": {cat(a, ab, down), 52}, "a deep way": {alt(a, down, a), 52}, "2 -1 of what is deep": {repeat(2, -1, false, down), 53},
		"deep beside opts": {cat(repeat(0, 3, false, a), down), 52}, "opts beside deep": {cat(down, repeat(0, 1000, false, a)), 2001},
		"opts of opts":         {repeat(0, 3, false, repeat(0, 1000, false, e)), 5 + 1001},
		"none of what is deep": {repeat(0, 1000, false, alt(a, times(0, down))), 2001},
		"cat in cat":           {cat(a, cat(a, cat(a, ab))), 2}, "alt in alt": {alt(a, alt(a, times(1, alt(a, a)))), 2}, "once": {chain(50, a, func(n api.Node) api.Node { return times(1, n) }), 1},
	}
}

// TestDepths: P7.2: so many nodes above a tree, that MaxDepth lie one below another in the simple form, and one more; Size tells the size of both.
func TestDepths(t *testing.T) {
	inGroup := func(n api.Node) api.Node { return group(2, n) }
	for what, c := range treesOfDepths() {
		s := simple(t, c.tree)
		if depthOf(s) != c.depth {
			t.Errorf("%s: depth %d; want %d", what, depthOf(s), c.depth)
		}
		// So the simple form is deeper than the tree, which has to be sound.
		tree, ofGroup := repeat(0, 30, false, group(1, c.tree)), 1+nodesOf(s)
		size, rest := 30*ofGroup+1+29*2, api.MaxDepth-60-c.depth
		for _, above := range []func(api.Node) api.Node{star, inGroup} {
			wantErrno(t, what+" at the limit", chain(rest, tree, above), api.OK, size+rest)
			wantErrno(t, what+" above the limit", chain(rest+1, tree, above), api.ErrBig, size+rest+1)
			wantErrno(t, what+" above the limit, none", cat(runeOf('a'), times(0, chain(rest+1, tree, above))), api.OK, 1)
		}
	}
}

// TestWholeDepths: P7.2: trees of MaxDepth nodes one below another, without counts or with such as come to nothing.
func TestWholeDepths(t *testing.T) {
	a, most := runeOf('a'), api.MaxDepth-1
	once := func(n api.Node) api.Node { return times(1, n) }
	wantSimple(t, chain(most, a, star), chain(most, a, star))
	wantSimple(t, chain(most, a, once), a)
	wantSimple(t, chain(most, a, func(n api.Node) api.Node { return cat(a, n) }), cat(many(api.MaxDepth, a)...))
	wantSimple(t, chain(most, a, func(n api.Node) api.Node { return cat(n, a) }), cat(many(api.MaxDepth, a)...))
	wantSimple(t, chain(most, a, func(n api.Node) api.Node { return alt(a, n) }), alt(many(api.MaxDepth, a)...))
	wantSimple(t, chain(most, a, func(n api.Node) api.Node { return cat(n, empty()) }), a)
	wantSimple(t, chain(most/2, a, func(n api.Node) api.Node { return alt(a, once(n)) }), alt(many(most/2+1, a)...))
	wantErrno(t, "too deep", chain(api.MaxDepth, a, star), api.ErrTree, 0)
	wantErrno(t, "too deep, but for once", chain(api.MaxDepth, a, once), api.ErrTree, 0)
	// Here the size is within the limit, the depth is not.
	wantErrno(t, "as deep as may be", repeat(0, 20, false, chain(9960, empty(), star)), api.OK, 20*9960+59)
	wantErrno(t, "deep, not big", repeat(0, 20, false, chain(9961, empty(), star)), api.ErrBig, 20*9961+59)
	wantErrno(t, "deep and big", repeat(0, 30, false, chain(9961, empty(), star)), api.ErrBig, api.MaxNodes+1)
}

// TestQuick: W1: trees whose copies come to nothing, and rows deep within rows: made copy by copy, or list by list, they would take too long to wait for.
func TestQuick(t *testing.T) {
	a, e := runeOf('a'), empty()
	often := func(n api.Node) api.Node { return times(1000, n) }
	wantSimple(t, chain(api.MaxDepth-1, e, often), e)
	wantSimple(t, chain(4999, e, func(n api.Node) api.Node { return cat(often(n), e) }), e)
	wantSimple(t, chain(3333, e, func(n api.Node) api.Node { return cat(times(0, often(a)), repeat(1000, 1000, true, n)) }), e)
	wantSimple(t, chain(100, times(0, a), func(n api.Node) api.Node { return repeat(1000, -1, false, times(0, n)) }), plus(e))
	manyOpts := many(60000, repeat(0, 1000, false, a))
	wantErrno(t, "many opts", cat(manyOpts...), api.ErrBig, api.MaxNodes+1)
	wantErrno(t, "many ways of opts", alt(manyOpts...), api.ErrBig, api.MaxNodes+1)
	wantErrno(t, "none of many opts", times(0, cat(manyOpts...)), api.OK, 1)
	wantErrno(t, "opts of opts", chain(api.MaxDepth-1, a, func(n api.Node) api.Node { return repeat(0, 1000, false, n) }), api.ErrBig, api.MaxNodes+1)
	wide := many(20, a)
	wantSimple(t, chain(4900, a, func(n api.Node) api.Node { return alt(append(wide, times(1, n))...) }), alt(many(4900*20+1, a)...))
	wantSimple(t, chain(4900, a, func(n api.Node) api.Node { return cat(append(wide, times(1, n))...) }), cat(many(4900*20+1, a)...))
	wantSimple(t, chain(4900, a, func(n api.Node) api.Node { return alt(append(wide, cat(e, n, e))...) }), alt(many(4900*20+1, a)...))
}

// unsound are trees that are refused.
func unsound() map[string]api.Node {
	within := cat(empty(), empty())
	within.Subs[1] = within
	return map[string]api.Node{
		"no kind":            {},
		"an unknown kind":    {Kind: 99},
		"an empty with more": {Kind: api.NodeEmpty, Subs: []api.Node{empty()}},
		"a lazy empty":       {Kind: api.NodeEmpty, Lazy: true},
		"no class":           class('b', 'a'),
		"half a class":       class(0, 0x10FFFF),
		"no assertion":       assert(3),
		"none in a row":      cat(),
		"one in a row":       cat(empty()),
		"none to choose":     alt(),
		"one to choose":      alt(empty()),
		"less than none":     repeat(-1, 2, false, empty()),
		"less than any":      repeat(0, -2, false, empty()),
		"more than most":     repeat(3, 2, false, empty()),
		"too often":          repeat(0, api.MaxCount+1, false, empty()),
		"at least too often": repeat(api.MaxCount+1, -1, false, empty()),
		"none repeated":      {Kind: api.NodeRepeat, Max: 1},
		"two repeated":       {Kind: api.NodeRepeat, Max: 1, Subs: many(2, empty())},
		"none in a group":    {Kind: api.NodeGroup, Index: 1},
		"no group's Index":   group(0, empty()),
		"too great an Index": group(api.MaxGroups+1, empty()),
		"no name":            named(1, "1", empty()),
		"in itself":          within,
		"too many nodes":     cat(many(api.MaxNodes, empty())...),
		"too deep":           chain(api.MaxDepth, empty(), star),
	}
}

// TestErrors: P7.1, P7.2: trees that are not sound, also where nothing would be left of them, or too much.
func TestErrors(t *testing.T) {
	big := chain(9, runeOf('a'), func(n api.Node) api.Node { return times(1000, n) })
	wantErrno(t, "big", big, api.ErrBig, api.MaxNodes+1)
	for what, tree := range unsound() {
		wantErrno(t, what, tree, api.ErrTree, 0)
		wantErrno(t, what+", below", star(group(1, alt(empty(), tree))), api.ErrTree, 0)
		wantErrno(t, what+", none of it", times(0, tree), api.ErrTree, 0)
		wantErrno(t, what+", beside what is big", cat(big, tree), api.ErrTree, 0)
		wantErrno(t, what+", often", chain(9, tree, func(n api.Node) api.Node { return times(1000, n) }), api.ErrTree, 0)
	}
	wantErrno(t, "as many nodes as may be", times(0, cat(many(api.MaxNodes-2, empty())...)), api.OK, 1)
	wantErrno(t, "one more", times(0, cat(many(api.MaxNodes-1, empty())...)), api.ErrTree, 0)
}

// withRoom is a tree whose lists have spare room, marked.
func withRoom(n api.Node) api.Node {
	n.Ranges = append(slices.Clone(n.Ranges), api.Range{Lo: -7, Hi: -7})[:len(n.Ranges)]
	subs := append(slices.Clone(n.Subs), api.Node{Kind: -7})[:len(n.Subs)]
	for i := range subs {
		subs[i] = withRoom(subs[i])
	}
	n.Subs = subs
	return n
}

// roomMarked tells whether the spare room of a tree is as withRoom made it.
func roomMarked(n api.Node) bool {
	ranges, subs := n.Ranges[:len(n.Ranges)+1], n.Subs[:len(n.Subs)+1]
	if ranges[len(n.Ranges)] != (api.Range{Lo: -7, Hi: -7}) || subs[len(n.Subs)].Kind != -7 {
		return false
	}
	return !slices.ContainsFunc(n.Subs, func(s api.Node) bool { return !roomMarked(s) })
}

// spoil makes nothing of a tree, in its own memory, spare room too.
func spoil(n api.Node) {
	for _, sub := range n.Subs {
		spoil(sub)
	}
	clear(n.Subs[:cap(n.Subs)])
	clear(n.Ranges[:cap(n.Ranges)])
}

// forMemory are patterns whose trees stay, are changed, or stand several times in the answer.
func forMemory() []string {
	return []string{
		``, `[a-ce]`, `$`, `a|b|`, `ab[c-f]`, `(?:ab)c|(?:d|e)`, `(?P<x>[a-d])*`, `a{0}`, `[ab]{1}`, `(?:ab|c){1}|d`, `(?:a(?:b)){1}`,
		`[a-c]{3}`, `(?:[a-c]|(?P<x>[d-f]|g)*){2,5}?`, `(?:(?:ab){2}c){3,}`, `(?:(?:a{0,3}|b){2}){0,3}`, `(?:()|\b){0,4}`, `[^\x{0}-\x{10FFFF}]{4}`,
	}
}

// TestHandedIn: P7.3: what is handed in is neither changed, nor its spare room, nor kept.
func TestHandedIn(t *testing.T) {
	for _, p := range forMemory() {
		tree := treeOf(t, p)
		want, roomy := simple(t, tree), withRoom(tree)
		size, got := simplify.Size(roomy), simple(t, roomy)
		if !same(tree, roomy) || !roomMarked(roomy) {
			t.Errorf("%q: what was handed in has changed", p)
		}
		spoil(roomy)
		if !same(got, want) || size != nodesOf(want) {
			t.Errorf("%q: the answer hangs on what was handed in", p)
		}
	}
}

// stretch is memory, from its first byte to behind its last one.
type stretch struct{ from, to uintptr }

// memoryOf is that of all the lists of a tree, spare room too.
func memoryOf(n api.Node) []stretch {
	var l []stretch
	if cap(n.Ranges) > 0 {
		from := uintptr(unsafe.Pointer(unsafe.SliceData(n.Ranges)))
		l = append(l, stretch{from, from + uintptr(cap(n.Ranges))*unsafe.Sizeof(api.Range{})})
	}
	if cap(n.Subs) > 0 {
		from := uintptr(unsafe.Pointer(unsafe.SliceData(n.Subs)))
		l = append(l, stretch{from, from + uintptr(cap(n.Subs))*unsafe.Sizeof(n)})
	}
	for _, sub := range n.Subs {
		l = append(l, memoryOf(sub)...)
	}
	return l
}

// apart tells whether no two of some memory have a byte in common.
func apart(l []stretch) bool {
	slices.SortFunc(l, func(a, b stretch) int {
		if a.from < b.from {
			return -1
		}
		return 1
	})
	for i := range l[1:] {
		if l[i].to > l[i+1].from {
			return false
		}
	}
	return true
}

// TestNothingShared: P7.3, W6: all lists of an answer have memory of their own, apart from that of each other, of what was handed in, and of another answer.
func TestNothingShared(t *testing.T) {
	for _, p := range forMemory() {
		tree := withRoom(treeOf(t, p))
		first, second := simple(t, tree), simple(t, tree)
		if !apart(slices.Concat(memoryOf(tree), memoryOf(first), memoryOf(second))) {
			t.Errorf("%q: memory is shared", p)
		}
		spoil(first)
		if third := simple(t, tree); !same(second, third) {
			t.Errorf("%q: %s, then %s", p, shown(second), shown(third))
		}
	}
	// One list may stand in what is handed in several times; in the answer none does.
	class := class('a', 'b', 'd', 'e')
	tree := cat(alt(many(9, class)...), times(2, alt(many(9, class)...)), star(class))
	if s := simple(t, tree); !apart(slices.Concat(memoryOf(class), memoryOf(s))) {
		t.Errorf("memory is shared")
	}
}

// TestEmptyLists: W5: a nil list is as an empty one.
func TestEmptyLists(t *testing.T) {
	for _, n := range []api.Node{empty(), class(), assert(api.EndText), runeOf('a'), star(empty()), group(1, class()), cat(empty(), runeOf('a')), alt(class(), empty())} {
		other := changed(n, func(n api.Node) api.Node {
			n.Ranges = append([]api.Range{}, n.Ranges...)
			n.Subs = append([]api.Node{}, n.Subs...)
			return n
		})
		wantSimple(t, other, simple(t, n))
		wantSimple(t, times(2, other), simple(t, times(2, n)))
	}
}

// TestAtOneTime: W2: many calls at one time answer what each answers alone, the arguments in common.
func TestAtOneTime(t *testing.T) {
	var group sync.WaitGroup
	for _, p := range forMemory() {
		tree := treeOf(t, p)
		want := simple(t, tree)
		for range 4 {
			group.Go(func() {
				for range 20 {
					if s, errno := simplify.Simplify(tree); errno != api.OK || !same(s, want) || simplify.Size(tree) != nodesOf(want) {
						t.Errorf("%q: %s, %d; want %s", p, shown(s), errno, shown(want))
					}
				}
			})
		}
	}
	group.Wait()
}
