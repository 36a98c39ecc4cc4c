package prog_test

import (
	"runtime"
	"strings"
	"testing"

	"heron/api"
	"heron/prog"
	"heron/simplify"
)

// example: a pattern, its program as the chapter writes it, how many captures that has.
type example struct {
	pattern, told string
	caps          int
}

// examples are the chapter's, but for the one that is refused.
func examples() []example {
	return []example{
		{`a`, "0 Cap 0 > 1; 1 Rune a > 2; 2 Cap 1 > 3; 3 Match 0", 2},
		{``, "0 Cap 0 > 1; 1 Cap 1 > 2; 2 Match 0", 2},
		{`a|b|`, "0 Cap 0 > 1; 1 Alt > 2, 4; 2 Rune a > 3; 3 Nop > 7; 4 Alt > 5, 7; 5 Rune b > 6; 6 Nop > 7; 7 Cap 1 > 8; 8 Match 0", 2},
		{`a*?`, "0 Cap 0 > 1; 1 Alt > 4, 2; 2 Rune a > 3; 3 Nop > 1; 4 Cap 1 > 5; 5 Match 0", 2},
		{`(a)+`, "0 Cap 0 > 1; 1 Cap 2 > 2; 2 Rune a > 3; 3 Cap 3 > 4; 4 Alt > 1, 5; 5 Cap 1 > 6; 6 Match 0", 4},
		{`(?:)+`, "0 Cap 0 > 1; 1 Alt > 1, 2; 2 Cap 1 > 3; 3 Match 0", 2},
		{`(a){0}`, "0 Cap 0 > 1; 1 Cap 1 > 2; 2 Match 0", 4},
	}
}

// exampleOfJoin is the chapter's, of `a` and of nothing.
const exampleOfJoin = "0 Alt > 1, 5; 1 Cap 0 > 2; 2 Rune a > 3; 3 Cap 1 > 4; 4 Match 0; 5 Cap 0 > 6; 6 Cap 1 > 7; 7 Match 1"

// TestExamples: P9.1, P9.3: what the chapter's examples say.
func TestExamples(t *testing.T) {
	for _, x := range examples() {
		if p := ofPattern(t, x.pattern); told(p) != x.told || p.Caps != x.caps || p.Start != 0 {
			t.Errorf("%q: %s; want %s", x.pattern, shown(p), x.told)
		}
	}
	wantCompile(t, "a thousand, twenty times", treeOf(t, `(?:a{1000}){20}`), api.ErrBig)
	if p := joined(t, ofPattern(t, `a`), ofPattern(t, ``)); told(p) != exampleOfJoin || p.Start != 0 || p.Caps != 2 {
		t.Errorf("Join: %s; want %s", shown(p), exampleOfJoin)
	}
}

// rowOf is the program of a row: its instructions, numbered from 1 on, between what stands around each one.
func rowOf(caps int, insts ...api.Inst) api.Program {
	p := whole(caps, note(0, 1))
	p.Insts = append(p.Insts, insts...)
	p.Insts = append(p.Insts, note(1, len(insts)+2), match(0))
	return p
}

// TestKinds: P9.1: each row of the table, with all the fields of its kind.
func TestKinds(t *testing.T) {
	a, b := api.Range{Lo: 'a', Hi: 'a'}, api.Range{Lo: 'b', Hi: 'b'}
	two := rangesOf('a', 'c', 'x', 'z')
	all := rangesOf(0, 0xD7FF, 0xE000, api.MaxRune)
	for _, x := range []struct {
		tree api.Node
		want api.Program
	}{
		{empty(), rowOf(2)},
		{class(), rowOf(2, fail())},
		{runeOf('a'), rowOf(2, ifRune(2, a))},
		{class('a', 'c', 'x', 'z'), rowOf(2, ifRune(2, two...))},
		{class(0, 0xD7FF, 0xE000, api.MaxRune), rowOf(2, ifRune(2, all...))},
		{api.Node{Kind: api.NodeClass, Ranges: manyRanges(api.MaxRanges)}, rowOf(2, ifRune(2, manyRanges(api.MaxRanges)...))},
		{assert(api.BeginText), rowOf(2, ifHolds(api.BeginText, 2))},
		{assert(api.EndText), rowOf(2, ifHolds(api.EndText, 2))},
		{assert(api.BeginLine), rowOf(2, ifHolds(api.BeginLine, 2))},
		{assert(api.EndLine), rowOf(2, ifHolds(api.EndLine, 2))},
		{assert(api.WordEdge), rowOf(2, ifHolds(api.WordEdge, 2))},
		{assert(api.NoWordEdge), rowOf(2, ifHolds(api.NoWordEdge, 2))},
		{group(1, runeOf('a')), rowOf(4, note(2, 2), ifRune(3, a), note(3, 4))},
		{group(3, empty()), rowOf(8, note(6, 2), note(7, 3))},
		{named(7, "x", class()), rowOf(16, note(14, 2), fail(), note(15, 4))},
		{group(api.MaxGroups, runeOf('a')), rowOf(1002, note(1000, 2), ifRune(3, a), note(1001, 4))},
		{cat(runeOf('a'), runeOf('b')), rowOf(2, ifRune(2, a), ifRune(3, b))},
		{cat(empty(), runeOf('a')), rowOf(2, ifRune(2, a))},
		{cat(class(), assert(api.EndLine), runeOf('b')), rowOf(2, fail(), ifHolds(api.EndLine, 3), ifRune(4, b))},
		{cat(empty(), empty()), rowOf(2)},
		{alt(runeOf('a'), runeOf('b')), rowOf(2, either(2, 4), ifRune(3, a), goOn(5), ifRune(5, b))},
		{alt(class(), runeOf('b')), rowOf(2, either(2, 4), fail(), goOn(5), ifRune(5, b))},
		{alt(runeOf('b'), class()), rowOf(2, either(2, 4), ifRune(3, b), goOn(5), fail())},
		{cat(alt(runeOf('a'), runeOf('b')), runeOf('a')), rowOf(2, either(2, 4), ifRune(3, a), goOn(5), ifRune(5, b), ifRune(6, a))},
		{group(1, alt(runeOf('a'), group(2, runeOf('b')))), rowOf(6, note(2, 2), either(3, 5), ifRune(4, a), goOn(8), note(4, 6), ifRune(7, b), note(5, 8), note(3, 9))},
	} {
		wantProgram(t, x.tree, x.want)
	}
}

// TestAlts: P9.1: rows without instructions in a NodeAlt, wherever they stand; NodeAlts within one another, which Simplify takes apart.
func TestAlts(t *testing.T) {
	a, b, c := api.Range{Lo: 'a', Hi: 'a'}, api.Range{Lo: 'b', Hi: 'b'}, api.Range{Lo: 'c', Hi: 'c'}
	none := repeat(0, 0, false, runeOf('x'))
	for _, x := range []struct {
		tree api.Node
		want api.Program
	}{
		{alt(empty(), empty()), rowOf(2, either(2, 3), goOn(3))},
		{alt(empty(), none, cat(empty(), empty())), rowOf(2, either(2, 3), goOn(5), either(4, 5), goOn(5))},
		{alt(empty(), runeOf('a')), rowOf(2, either(2, 3), goOn(4), ifRune(4, a))},
		{alt(runeOf('a'), empty()), rowOf(2, either(2, 4), ifRune(3, a), goOn(4))},
		{alt(runeOf('a'), none, runeOf('b')), rowOf(2, either(2, 4), ifRune(3, a), goOn(7), either(5, 6), goOn(7), ifRune(7, b))},
		{alt(runeOf('a'), runeOf('b'), empty()), rowOf(2, either(2, 4), ifRune(3, a), goOn(7), either(5, 7), ifRune(6, b), goOn(7))},
		{cat(alt(runeOf('a'), empty()), runeOf('c')), rowOf(2, either(2, 4), ifRune(3, a), goOn(4), ifRune(5, c))},
		{alt(alt(runeOf('a'), runeOf('b')), runeOf('c')), rowOf(2, either(2, 4), ifRune(3, a), goOn(8), either(5, 7), ifRune(6, b), goOn(8), ifRune(8, c))},
		{alt(runeOf('a'), alt(runeOf('b'), runeOf('c'))), rowOf(2, either(2, 4), ifRune(3, a), goOn(8), either(5, 7), ifRune(6, b), goOn(8), ifRune(8, c))},
		{alt(runeOf('a'), repeat(1, 1, true, alt(runeOf('b'), runeOf('c')))), rowOf(2, either(2, 4), ifRune(3, a), goOn(8), either(5, 7), ifRune(6, b), goOn(8), ifRune(8, c))},
		{alt(cat(alt(runeOf('a'), empty()), runeOf('b')), runeOf('c')), rowOf(2, either(2, 7), either(3, 5), ifRune(4, a), goOn(5), ifRune(6, b), goOn(8), ifRune(8, c))},
		// The row of the one within goes on behind it, not behind the one without.
		{alt(quest(alt(runeOf('a'), empty())), runeOf('c')), rowOf(2, either(2, 7), either(3, 6), either(4, 6), ifRune(5, a), goOn(6), goOn(8), ifRune(8, c))},
	} {
		wantProgram(t, x.tree, x.want)
	}
}

// TestLoops: P9.1: the three loops, lazy and not, of one instruction, of none, of several, and within one another.
func TestLoops(t *testing.T) {
	a, b := api.Range{Lo: 'a', Hi: 'a'}, api.Range{Lo: 'b', Hi: 'b'}
	lazyStar := func(n api.Node) api.Node { return repeat(0, -1, true, n) }
	lazyPlus := func(n api.Node) api.Node { return repeat(1, -1, true, n) }
	lazyQuest := func(n api.Node) api.Node { return repeat(0, 1, true, n) }
	ab := cat(runeOf('a'), runeOf('b'))
	for _, x := range []struct {
		tree api.Node
		want api.Program
	}{
		{quest(runeOf('a')), rowOf(2, either(2, 3), ifRune(3, a))},
		{lazyQuest(runeOf('a')), rowOf(2, either(3, 2), ifRune(3, a))},
		{star(runeOf('a')), rowOf(2, either(2, 4), ifRune(3, a), goOn(1))},
		{lazyStar(runeOf('a')), rowOf(2, either(4, 2), ifRune(3, a), goOn(1))},
		{plus(runeOf('a')), rowOf(2, ifRune(2, a), either(1, 3))},
		{lazyPlus(runeOf('a')), rowOf(2, ifRune(2, a), either(3, 1))},
		{quest(empty()), rowOf(2, either(2, 2))},
		{lazyQuest(empty()), rowOf(2, either(2, 2))},
		{star(empty()), rowOf(2, either(2, 3), goOn(1))},
		{lazyStar(empty()), rowOf(2, either(3, 2), goOn(1))},
		{plus(empty()), rowOf(2, either(1, 2))},
		{lazyPlus(empty()), rowOf(2, either(2, 1))},
		{quest(ab), rowOf(2, either(2, 4), ifRune(3, a), ifRune(4, b))},
		{star(ab), rowOf(2, either(2, 5), ifRune(3, a), ifRune(4, b), goOn(1))},
		{plus(ab), rowOf(2, ifRune(2, a), ifRune(3, b), either(1, 4))},
		{lazyPlus(ab), rowOf(2, ifRune(2, a), ifRune(3, b), either(4, 1))},
		{star(class()), rowOf(2, either(2, 4), fail(), goOn(1))},
		{star(star(runeOf('a'))), rowOf(2, either(2, 6), either(3, 5), ifRune(4, a), goOn(2), goOn(1))},
		{star(lazyPlus(empty())), rowOf(2, either(2, 4), either(3, 2), goOn(1))},
		{plus(plus(empty())), rowOf(2, either(1, 2), either(1, 3))},
		{plus(quest(runeOf('a'))), rowOf(2, either(2, 3), ifRune(3, a), either(1, 4))},
		{lazyQuest(quest(empty())), rowOf(2, either(3, 2), either(3, 3))},
		{cat(runeOf('b'), plus(empty()), runeOf('a')), rowOf(2, ifRune(2, b), either(2, 3), ifRune(4, a))},
		{star(alt(runeOf('a'), empty())), rowOf(2, either(2, 6), either(3, 5), ifRune(4, a), goOn(5), goOn(1))},
	} {
		wantProgram(t, x.tree, x.want)
	}
}

// TestCounts: P9.1: what has counts is laid down as Simplify unfolds it.
func TestCounts(t *testing.T) {
	a := api.Range{Lo: 'a', Hi: 'a'}
	for _, x := range []struct {
		tree api.Node
		want api.Program
	}{
		{repeat(0, 0, false, runeOf('a')), rowOf(2)},
		{repeat(1, 1, true, runeOf('a')), rowOf(2, ifRune(2, a))},
		{repeat(2, 2, false, runeOf('a')), rowOf(2, ifRune(2, a), ifRune(3, a))},
		{repeat(2, -1, true, runeOf('a')), rowOf(2, ifRune(2, a), ifRune(3, a), either(4, 2))},
		{repeat(1, 3, false, runeOf('a')), rowOf(2, ifRune(2, a), either(3, 6), ifRune(4, a), either(5, 6), ifRune(6, a))},
		{repeat(0, 2, true, runeOf('a')), rowOf(2, either(5, 2), ifRune(3, a), either(5, 4), ifRune(5, a))},
		{repeat(0, 2, false, empty()), rowOf(2, either(2, 3), either(3, 3))},
		{repeat(3, 3, false, empty()), rowOf(2)},
		{repeat(3, -1, false, empty()), rowOf(2, either(1, 2))},
		{repeat(2, 2, false, group(1, runeOf('a'))), rowOf(4, note(2, 2), ifRune(3, a), note(3, 4), note(2, 5), ifRune(6, a), note(3, 7))},
	} {
		wantProgram(t, x.tree, x.want)
	}
}

// TestCaps: P9.1: captures are counted by the greatest Index of the tree that is handed in, wherever that stands, and also where Simplify leaves it out.
func TestCaps(t *testing.T) {
	a := runeOf('a')
	gone := func(n api.Node) api.Node { return repeat(0, 0, false, n) }
	for _, x := range []struct {
		tree api.Node
		want int
	}{
		{a, 2}, {cat(a, a), 2}, {group(1, a), 4}, {group(500, a), 1002}, {named(499, "x", a), 1000},
		{cat(group(2, a), group(1, a)), 6}, {cat(group(1, a), group(2, a)), 6}, {alt(a, group(9, a), a), 20}, {cat(group(7, a), group(7, a)), 16},
		{group(3, group(2, group(1, a))), 8}, {group(1, group(2, group(3, a))), 8}, {star(alt(a, quest(group(4, empty())))), 10},
		{gone(group(1, a)), 4}, {gone(group(500, empty())), 1002}, {cat(group(1, a), gone(group(3, a))), 8}, {cat(gone(group(3, a)), group(1, a)), 8},
		{gone(star(alt(a, group(5, group(2, a))))), 12}, {group(2, gone(group(1, a))), 6}, {group(1, gone(group(2, a))), 6},
		{repeat(0, 5, false, group(2, a)), 6}, {repeat(3, -1, false, group(2, gone(group(6, a)))), 14},
	} {
		p := compiled(t, x.tree)
		if p.Caps != x.want || p.Start != 0 {
			t.Errorf("%s: %s; want Caps %d", shownTree(x.tree), shown(p), x.want)
		}
		if e := prog.Check(p); e != api.OK {
			t.Errorf("%s: Check %d", shownTree(x.tree), e)
		}
	}
}

// wantLength fails, if a tree's program has not just so many instructions, or may not be.
func wantLength(t *testing.T, what string, tree api.Node, want int) {
	t.Helper()
	p, errno := prog.Compile(tree)
	if errno != api.OK || len(p.Insts) != want || prog.Check(p) != api.OK {
		t.Errorf("%s: %d instructions, %d, Check %d; want %d", what, len(p.Insts), errno, prog.Check(p), want)
	}
}

// TestLengths: P9.1, P9.5: programs of MaxInsts instructions, and of one more, of each kind of node and of counts.
func TestLengths(t *testing.T) {
	a, most := runeOf('a'), api.MaxInsts
	rest := func(n api.Node, count int) api.Node { return cat(append(many(count, a), n)...) }
	for what, x := range map[string]struct {
		tree  api.Node // without what is ahead of it
		count int      // its instructions
	}{
		"a row":               {cat(many(100, a)...), 100},
		"classes without any": {cat(many(9000, class())...), 9000},
		"assertions":          {cat(many(9000, assert(api.WordEdge))...), 9000},
		"groups":              {cat(many(6000, group(1, a))...), 18000},
		"ways":                {alt(many(6600, a)...), 6600 + 2*6599},
		"ways of nothing":     {alt(many(9900, empty())...), 2 * 9899},
		"ways within ways":    {alt(many(100, alt(many(60, a)...))...), 100*60 + 2*100*59 + 2*99},
		"ways in a way alone": {alt(many(100, repeat(1, 1, false, alt(many(60, a)...)))...), 100*60 + 2*100*59 + 2*99},
		"quests":              {cat(many(9000, quest(a))...), 18000},
		"stars":               {cat(many(6000, star(a))...), 18000},
		"pluses":              {cat(many(9000, plus(a))...), 18000},
		"stars of nothing":    {cat(many(9000, star(empty()))...), 18000},
		"pluses of nothing":   {cat(many(19000, plus(empty()))...), 19000},
		"a count":             {repeat(19, 19, false, repeat(1000, 1000, false, a)), 19000},
		"at least":            {repeat(19, -1, true, repeat(1000, 1000, false, a)), 19001},
		"at most":             {repeat(0, 19, false, repeat(1000, 1000, false, a)), 19019},
		"between":             {repeat(7, 19, true, repeat(1000, 1000, false, a)), 19012},
		"at most one each":    {repeat(9, 9, true, repeat(0, 1000, false, a)), 18000},
		"at most of nothing":  {repeat(9, 9, true, repeat(0, 1000, false, empty())), 9000},
		"groups in counts":    {repeat(1000, 1000, true, group(1, alt(a, repeat(3, 4, false, a)))), 1000 * (2 + 1 + 2 + 3 + 2)},
	} {
		left := most - 3 - x.count
		wantLength(t, what, rest(x.tree, left), most)
		wantLength(t, what+", one less", rest(x.tree, left-1), most-1)
		wantCompile(t, what+", one more", rest(x.tree, left+1), api.ErrBig)
		wantCompile(t, what+", many more", repeat(1000, 1000, false, rest(x.tree, left)), api.ErrBig)
	}
	wantLength(t, "nothing", empty(), 3)
	wantLength(t, "nothing, often", chain(9000, empty(), func(n api.Node) api.Node { return repeat(1000, 1000, false, n) }), 3)
	wantLength(t, "none of very many", repeat(0, 0, false, repeat(1000, 1000, false, repeat(1000, 1000, false, repeat(1000, 1000, false, a)))), 3)
}

// TestTooGreat: P9.1: what Simplify refuses: too many nodes, or too many one below another; counts whose product is above all numbers.
func TestTooGreat(t *testing.T) {
	a := runeOf('a')
	thousandfold := func(n api.Node) api.Node { return repeat(1000, 1000, false, n) }
	for what, tree := range map[string]api.Node{
		"a row":           cat(many(api.MaxNodes-1, a)...),
		"ways":            alt(many(api.MaxNodes-1, empty())...),
		"a billion":       chain(3, a, thousandfold),
		"no number's":     chain(9000, a, thousandfold),
		"optional":        chain(9000, a, func(n api.Node) api.Node { return repeat(0, 1000, true, n) }),
		"at least":        chain(9000, a, func(n api.Node) api.Node { return repeat(1000, -1, true, n) }),
		"of nothing":      chain(9000, empty(), func(n api.Node) api.Node { return repeat(500, 1000, true, n) }),
		"sums":            alt(many(10000, chain(6, a, thousandfold))...),
		"beside left out": cat(repeat(0, 0, false, a), chain(3, a, thousandfold)),
	} {
		wantCompile(t, what, tree, api.ErrBig)
	}
	// Of the simple form of a{0,1000} two thousand nodes lie one below another, and its row has two thousand instructions.
	deep := repeat(0, api.MaxCount, false, a)
	wantLength(t, "just not too deep", chain(api.MaxDepth-2000, deep, quest), api.MaxDepth-2000+2000+3)
	wantCompile(t, "too deep", chain(api.MaxDepth-1999, deep, quest), api.ErrBig)
	// Just Simplify's depth refuses these; reckoned, they are short.
	if _, errno := simplify.Simplify(chain(api.MaxDepth-1999, deep, plus)); errno != api.ErrBig {
		t.Errorf("Simplify takes it: %d", errno)
	}
	wantCompile(t, "too deep, of pluses", chain(api.MaxDepth-1999, deep, plus), api.ErrBig)
}

// TestDepths: P9.1: trees of MaxDepth nodes one below another.
func TestDepths(t *testing.T) {
	a, most := runeOf('a'), api.MaxDepth-1
	ranges := rangesOf('a', 'a')
	var pluses, quests []api.Inst
	pluses = append(pluses, ifRune(2, ranges...))
	for i := range most {
		pluses = append(pluses, either(1, 3+i))
		quests = append(quests, either(2+i, 2+most))
	}
	quests = append(quests, ifRune(2+most, ranges...))
	wantProgram(t, chain(most, a, plus), rowOf(2, pluses...))
	wantProgram(t, chain(most, a, quest), rowOf(2, quests...))
	wantLength(t, "stars", chain(9998, a, star), api.MaxInsts)
	wantCompile(t, "stars, one more", chain(9999, a, star), api.ErrBig)
	wantLength(t, "groups", chain(9998, a, func(n api.Node) api.Node { return group(3, n) }), api.MaxInsts)
	wantCompile(t, "groups, one more", chain(9999, a, func(n api.Node) api.Node { return group(3, n) }), api.ErrBig)
	wantLength(t, "ways", chain(4999, a, func(n api.Node) api.Node { return quest(alt(n, empty())) }), 3*4999+1+3)
	wantLength(t, "rows", chain(4999, a, func(n api.Node) api.Node { return plus(cat(n, a)) }), 2*4999+1+3)
	wantCompile(t, "above the limit", chain(most+1, a, plus), api.ErrTree)
}

// unsound are trees that are refused.
func unsound() map[string]api.Node {
	within := cat(empty(), empty())
	within.Subs[1] = within
	return map[string]api.Node{
		"no kind":                  {},
		"an unknown kind":          {Kind: 8},
		"a kind far off":           {Kind: 1 << 30},
		"a kind below":             {Kind: -1},
		"an empty with more":       {Kind: api.NodeEmpty, Subs: []api.Node{empty()}},
		"a lazy empty":             {Kind: api.NodeEmpty, Lazy: true},
		"an empty that asserts":    {Kind: api.NodeEmpty, Assert: api.BeginText},
		"an empty with an Index":   {Kind: api.NodeEmpty, Index: 1},
		"no class":                 class('b', 'a'),
		"half a class":             class(0, 0x10FFFF),
		"too great a class":        {Kind: api.NodeClass, Ranges: manyRanges(api.MaxRanges + 1)},
		"a class that asserts":     {Kind: api.NodeClass, Assert: api.EndLine},
		"a class with an Index":    {Kind: api.NodeClass, Index: 2},
		"no assertion":             assert(3),
		"none of the assertions":   assert(0),
		"an unknown assertion":     assert(64),
		"an assertion with ranges": {Kind: api.NodeAssert, Assert: 1, Ranges: rangesOf(1, 1)},
		"none in a row":            cat(),
		"one in a row":             cat(empty()),
		"none to choose":           alt(),
		"one to choose":            alt(empty()),
		"less than none":           repeat(-1, 2, false, empty()),
		"less than any":            repeat(0, -2, false, empty()),
		"more than most":           repeat(3, 2, false, empty()),
		"too often":                repeat(0, api.MaxCount+1, false, empty()),
		"at least too often":       repeat(api.MaxCount+1, -1, false, empty()),
		"none repeated":            {Kind: api.NodeRepeat, Max: 1},
		"two repeated":             {Kind: api.NodeRepeat, Max: 1, Subs: many(2, empty())},
		"none in a group":          {Kind: api.NodeGroup, Index: 1},
		"two in a group":           {Kind: api.NodeGroup, Index: 1, Subs: many(2, empty())},
		"no group's Index":         group(0, empty()),
		"an Index below":           group(-1, empty()),
		"too great an Index":       group(api.MaxGroups+1, empty()),
		"no name":                  named(1, "1", empty()),
		"too long a name":          named(1, strings.Repeat("n", api.MaxName+1), empty()),
		"a group that asserts":     {Kind: api.NodeGroup, Index: 1, Assert: 1, Subs: many(1, empty())},
		"in itself":                within,
		"too many nodes":           cat(many(api.MaxNodes, empty())...),
		"too deep":                 chain(api.MaxDepth, empty(), star),
	}
}

// TestNotSound: P9.1: trees that are not sound, also where their simple form would have lost what is wrong, or would be too great.
func TestNotSound(t *testing.T) {
	a := runeOf('a')
	for what, tree := range unsound() {
		wantCompile(t, what, tree, api.ErrTree)
		wantCompile(t, what+", in a group", group(1, tree), api.ErrTree)
		wantCompile(t, what+", first", cat(tree, empty()), api.ErrTree)
		wantCompile(t, what+", last", alt(empty(), tree), api.ErrTree)
		wantCompile(t, what+", below", star(group(1, alt(empty(), tree))), api.ErrTree)
		wantCompile(t, what+", left out", cat(a, repeat(0, 0, false, tree)), api.ErrTree)
		wantCompile(t, what+", behind too much", cat(repeat(1000, 1000, false, repeat(1000, 1000, false, a)), tree), api.ErrTree)
	}
}

// TestGreatClasses: P9.1: what is refused for its length takes no memory for the copies of its classes.
func TestGreatClasses(t *testing.T) {
	great := api.Node{Kind: api.NodeClass, Ranges: manyRanges(api.MaxRanges)}
	tree := repeat(190, 190, false, repeat(1000, 1000, false, great))
	var ahead, behind runtime.MemStats
	runtime.ReadMemStats(&ahead)
	wantCompile(t, "great classes", tree, api.ErrBig)
	runtime.ReadMemStats(&behind)
	if taken := behind.TotalAlloc - ahead.TotalAlloc; taken > 50<<20 {
		t.Errorf("%d bytes were taken", taken)
	}
	wantLength(t, "fewer of them", repeat(500, 500, false, great), 503)
}
