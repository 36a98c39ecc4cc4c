package meaning_test

import (
	"math"
	"slices"
	"strconv"
	"sync"
	"testing"

	"heron/api"
	"heron/meaning"
	"heron/syntax"
)

// example: a pattern's tree over a text, and the Caps of its parses, whose second is their End.
type example struct {
	pattern, text string
	at            int
	want          [][]int
}

// examples are the chapter's, and those of the whole that are told by parses.
func examples() []example {
	return []example{
		{`a*`, "aa", 0, [][]int{{0, 2}, {0, 1}, {0, 0}}},
		{`a*?`, "aa", 0, [][]int{{0, 0}, {0, 1}, {0, 2}}},
		{`(a|ab)(c|bcd)(d*)`, "abcd", 0, [][]int{{0, 4, 0, 1, 1, 4, 4, 4}, {0, 3, 0, 2, 2, 3, 3, 3}}},
		{`(|a)*`, "a", 0, [][]int{{0, 1, 0, 1}, {0, 0, -1, -1}}},
		{`(|a)+`, "a", 0, [][]int{{0, 0, 0, 0}, {0, 1, 0, 1}}},
		{`(a*)*`, "b", 0, [][]int{{0, 0, -1, -1}}},
		{`(a*)+`, "b", 0, [][]int{{0, 0, 0, 0}}},
		{`(?:(a)|b)*`, "ab", 0, [][]int{{0, 2, 0, 1}, {0, 1, 0, 1}, {0, 0, -1, -1}}},
		{`(|a){2}`, "a", 0, [][]int{{0, 0, 0, 0}, {0, 1, 0, 1}}},
		{`x`, "ab", 0, nil},
		{`a(b*)`, "xabb", 1, [][]int{{1, 4, 2, 4}, {1, 3, 2, 3}, {1, 2, 2, 2}}},
		{`a|ab`, "ab", 0, [][]int{{0, 1}, {0, 2}}},
		{`(?:(a??)(b??))+c`, "abc", 0, [][]int{{0, 3, 0, 1, 1, 2}}},
	}
}

// TestExamples: P6.1: what the document's examples say.
func TestExamples(t *testing.T) {
	for _, c := range examples() {
		wantParses(t, treeOf(t, c.pattern), runesOf(c.text), c.at, c.want...)
	}
	wantErrno(t, "behind the text", treeOf(t, `x`), runesOf("ab"), 3, api.ErrArg)
}

// TestKinds: P6.1: each kind of nodes, where it fits and where it does not.
func TestKinds(t *testing.T) {
	for _, c := range []example{
		{``, "", 0, [][]int{{0, 0}}},
		{``, "ab", 1, [][]int{{1, 1}}},
		{``, "ab", 2, [][]int{{2, 2}}},
		{`b`, "ab", 1, [][]int{{1, 2}}},
		{`b`, "ab", 0, nil},
		{`b`, "ab", 2, nil},
		{`[a-c]`, "xcx", 1, [][]int{{1, 2}}},
		{`[^\x{0}-\x{10FFFF}]`, "a", 0, nil},
		{`ab`, "abab", 2, [][]int{{2, 4}}},
		{`ab`, "aba", 2, nil},
		{`ba|b|`, "ba", 0, [][]int{{0, 2}, {0, 1}, {0, 0}}},
		{`|b|ba`, "ba", 0, [][]int{{0, 0}, {0, 1}, {0, 2}}},
		{`(a)`, "aa", 1, [][]int{{1, 2, 1, 2}}},
		{`()`, "aa", 2, [][]int{{2, 2, 2, 2}}},
		{`((a)(b))`, "ab", 0, [][]int{{0, 2, 0, 2, 0, 1, 1, 2}}},
		{`(a)|(b)`, "b", 0, [][]int{{0, 1, -1, -1, 0, 1}}},
		// What an alternative noted, ahead of coming to nothing, is not what the next one notes.
		{`(a)x|(?:a)(b)`, "ab", 0, [][]int{{0, 2, -1, -1, 1, 2}}},
		{`(a)?ab|(a)b`, "ab", 0, [][]int{{0, 2, -1, -1, -1, -1}}},
	} {
		wantParses(t, treeOf(t, c.pattern), runesOf(c.text), c.at, c.want...)
	}
}

// TestAssertions: P6.1: each assertion, at every place of a text, both ends too.
func TestAssertions(t *testing.T) {
	text := runesOf("a\n-b")
	for which, want := range map[int][]int{
		api.BeginText: {0}, api.EndText: {4}, api.BeginLine: {0, 2}, api.EndLine: {1, 4}, api.WordEdge: {0, 1, 3, 4}, api.NoWordEdge: {2},
	} {
		for at := range 5 {
			if slices.Contains(want, at) {
				wantParses(t, assert(which), text, at, []int{at, at})
			} else {
				wantParses(t, assert(which), text, at)
			}
		}
	}
	wantParses(t, assert(api.EndText), nil, 0, []int{0, 0})
	wantParses(t, assert(api.WordEdge), nil, 0)
	// It is the text that counts, not what is left of it from the place on.
	wantParses(t, cat(assert(api.BeginText), runeOf('b')), text, 3)
	wantParses(t, cat(assert(api.NoWordEdge), runeOf('b')), runesOf("ab"), 1, []int{1, 2})
}

// TestCounts: P6.1, P6.6: each row of the table of the unfolded form, lazy or not.
func TestCounts(t *testing.T) {
	for _, c := range []struct {
		count string
		ends  []int // over aaaa, the greatest ahead
	}{
		{`*`, []int{4, 3, 2, 1, 0}},
		{`+`, []int{4, 3, 2, 1}},
		{`{2,}`, []int{4, 3, 2}},
		{`{4,}`, []int{4}},
		{`{5,}`, nil},
		{`{1000,}`, nil},
		{`{0}`, []int{0}},
		{`{1}`, []int{1}},
		{`{3}`, []int{3}},
		{`{5}`, nil},
		{`{1000}`, nil},
		{`?`, []int{1, 0}},
		{`{0,2}`, []int{2, 1, 0}},
		{`{1,2}`, []int{2, 1}},
		{`{2,3}`, []int{3, 2}},
		{`{3,1000}`, []int{4, 3}},
		{`{0,999}`, []int{4, 3, 2, 1, 0}},
	} {
		var often, seldom [][]int
		for _, end := range c.ends {
			often = append(often, []int{0, end})
			seldom = append([][]int{{0, end}}, seldom...)
		}
		wantParses(t, treeOf(t, `a`+c.count), runesOf("aaaa"), 0, often...)
		wantParses(t, treeOf(t, `a`+c.count+`?`), runesOf("aaaa"), 0, seldom...)
	}
}

// TestRounds: P6.1: what loops note, round by round, and rounds of nothing, also within one another.
func TestRounds(t *testing.T) {
	for _, c := range []example{
		{`(a|b)*`, "ab", 0, [][]int{{0, 2, 1, 2}, {0, 1, 0, 1}, {0, 0, -1, -1}}},
		{`(a)(a)?`, "aa", 0, [][]int{{0, 2, 0, 1, 1, 2}, {0, 1, 0, 1, -1, -1}}},
		// A round of nothing of a STAR comes to nothing; one in which a PLUS was begun ends it.
		{`()*`, "", 0, [][]int{{0, 0, -1, -1}}},
		{`()*?`, "", 0, [][]int{{0, 0, -1, -1}}},
		{`()+`, "", 0, [][]int{{0, 0, 0, 0}}},
		{`()+?`, "", 0, [][]int{{0, 0, 0, 0}}},
		{`()?`, "", 0, [][]int{{0, 0, 0, 0}}},
		{`()??`, "", 0, [][]int{{0, 0, -1, -1}}},
		{`(a|)*`, "a", 0, [][]int{{0, 1, 0, 1}, {0, 0, -1, -1}}},
		{`(a|)+`, "a", 0, [][]int{{0, 1, 0, 1}, {0, 0, 0, 0}}},
		{`(|a)*?`, "a", 0, [][]int{{0, 0, -1, -1}, {0, 1, 0, 1}}},
		{`(|a)+?`, "a", 0, [][]int{{0, 0, 0, 0}, {0, 1, 0, 1}}},
		{`(|a)+`, "aa", 0, [][]int{{0, 0, 0, 0}, {0, 2, 1, 2}, {0, 1, 0, 1}}},
		{`(|a)*b`, "aab", 0, [][]int{{0, 3, 1, 2}}},
		{`(a?)*`, "a", 0, [][]int{{0, 1, 0, 1}, {0, 0, -1, -1}}},
		{`(a?)*?b`, "aab", 0, [][]int{{0, 3, 1, 2}}},
		{`(a*)+`, "aa", 0, [][]int{{0, 2, 0, 2}, {0, 1, 0, 1}, {0, 0, 0, 0}}},
		{`(a*?)+`, "a", 0, [][]int{{0, 0, 0, 0}, {0, 1, 0, 1}}},
		{`((a*)*)*`, "b", 0, [][]int{{0, 0, -1, -1, -1, -1}}},
		{`((a*)+)*`, "b", 0, [][]int{{0, 0, -1, -1, -1, -1}}},
		{`((a*)*)+`, "b", 0, [][]int{{0, 0, 0, 0, -1, -1}}},
		{`((a*)+)+`, "b", 0, [][]int{{0, 0, 0, 0, 0, 0}}},
		{`((a*)+)+`, "a", 0, [][]int{{0, 1, 0, 1, 0, 1}, {0, 0, 0, 0, 0, 0}}},
		{`((|a)+)+`, "a", 0, [][]int{{0, 0, 0, 0, 0, 0}, {0, 1, 0, 1, 0, 1}}},
		// The second copy of x{2,} is a PLUS: its first round may be one of nothing.
		{`(a|){2,}`, "a", 0, [][]int{{0, 1, 1, 1}, {0, 0, 0, 0}}},
		{`(|a){0,2}`, "aa", 0, [][]int{{0, 0, 0, 0}, {0, 1, 0, 1}, {0, 2, 1, 2}}},
		{`(|a){2,3}?`, "aa", 0, [][]int{{0, 0, 0, 0}, {0, 1, 0, 1}, {0, 2, 1, 2}}},
		{`(?:\b)*a`, "a", 0, [][]int{{0, 1}}},
		{`(\b|a)+`, "a", 0, [][]int{{0, 0, 0, 0}, {0, 1, 0, 1}}},
		{`(?:(a)|(b))*`, "aba", 0, [][]int{{0, 3, 2, 3, 1, 2}, {0, 2, 0, 1, 1, 2}, {0, 1, 0, 1, -1, -1}, {0, 0, -1, -1, -1, -1}}},
	} {
		wantParses(t, treeOf(t, c.pattern), runesOf(c.text), c.at, c.want...)
	}
}

// TestLostGroups: P6.1: captures up to the greatest Index of the tree that is handed in, whatever is left of it.
func TestLostGroups(t *testing.T) {
	a := runesOf("a")
	wantParses(t, treeOf(t, `(a){0}`), a, 0, []int{0, 0, -1, -1})
	wantParses(t, treeOf(t, `(a)(?:(b)(c)){0}`), a, 0, []int{0, 1, 0, 1, -1, -1, -1, -1})
	wantParses(t, treeOf(t, `(?:(b)){0}(a)`), a, 0, []int{0, 1, -1, -1, 0, 1})
	wantParses(t, repeat(0, 0, false, cat(group(2, empty()), group(1, empty()))), a, 1, []int{1, 1, -1, -1, -1, -1})
	wantParses(t, repeat(0, 0, true, group(api.MaxGroups, empty())), a, 0, append([]int{0, 0}, slices.Repeat([]int{-1, -1}, api.MaxGroups)...))
}

// TestIndexes: P6.1: sound trees have groups in any order, some more than once, some not at all.
func TestIndexes(t *testing.T) {
	ab, a, b := runesOf("ab"), runeOf('a'), runeOf('b')
	wantParses(t, cat(group(2, a), group(1, b)), ab, 0, []int{0, 2, 1, 2, 0, 1})
	wantParses(t, cat(group(1, a), group(1, b)), ab, 0, []int{0, 2, 1, 2})
	wantParses(t, group(1, cat(a, group(1, b))), ab, 0, []int{0, 2, 1, 2})
	wantParses(t, group(1, cat(group(1, a), b)), ab, 0, []int{0, 2, 0, 2})
	wantParses(t, group(3, a), ab, 0, []int{0, 1, -1, -1, -1, -1, 0, 1})
	last := slices.Repeat([]int{-1}, 2*api.MaxGroups+2)
	last[0], last[1], last[2*api.MaxGroups], last[2*api.MaxGroups+1] = 1, 2, 1, 2
	wantParses(t, group(api.MaxGroups, b), ab, 1, last)
	// A group's Name changes nothing; one Name may stand twice in a sound tree.
	named := func(index int, sub api.Node) api.Node {
		n := group(index, sub)
		n.Name = "x"
		return n
	}
	wantParses(t, cat(named(1, a), named(2, b)), ab, 0, []int{0, 2, 0, 1, 1, 2})
}

// TestRunes: P6.1: the runes of a text may be any numbers, of which a class has none but those of the domain.
func TestRunes(t *testing.T) {
	all := class(0, 0xD7FF, 0xE000, api.MaxRune)
	for _, r := range []int{math.MinInt, -1, 0xD800, 0xDFFF, api.MaxRune + 1, math.MaxInt} {
		wantParses(t, all, []int{r}, 0)
		wantParses(t, star(alt(all, assert(api.NoWordEdge))), []int{r}, 0, []int{0, 0})
		wantParses(t, cat(assert(api.WordEdge), runeOf('a')), []int{r, 'a'}, 1, []int{1, 2})
	}
	for _, r := range []int{0, 0xD7FF, 0xE000, api.MaxRune} {
		wantParses(t, all, []int{r}, 0, []int{0, 1})
		wantParses(t, runeOf(r), []int{r}, 0, []int{0, 1})
	}
}

// TestPlacesOfTexts: P6.1: at each place of a text, both ends too, and at those that are none.
func TestPlacesOfTexts(t *testing.T) {
	for _, long := range []int{0, 1, 2, api.MaxShort} {
		text := slices.Repeat([]int{'a'}, long)
		for at := range long + 1 {
			var want [][]int
			for end := long; end >= at; end-- {
				want = append(want, []int{at, end})
			}
			wantParses(t, star(runeOf('a')), text, at, want...)
		}
		for _, at := range []int{math.MinInt, -1, long + 1, api.MaxShort + 1, math.MaxInt} {
			wantErrno(t, strconv.Itoa(at), empty(), text, at, api.ErrArg)
		}
	}
}

// unsound are trees that are refused.
func unsound() map[string]api.Node {
	within := cat(empty(), empty())
	within.Subs[1] = within
	named := group(1, empty())
	named.Name = "1"
	return map[string]api.Node{
		"no kind":            {},
		"an unknown kind":    {Kind: 99},
		"an empty with more": {Kind: api.NodeEmpty, Subs: []api.Node{empty()}},
		"no class":           class('b', 'a'),
		"no assertion":       assert(3),
		"one in a row":       cat(empty()),
		"one to choose":      alt(empty()),
		"less than none":     repeat(-1, 2, false, empty()),
		"more than most":     repeat(3, 2, false, empty()),
		"too often":          repeat(0, api.MaxCount+1, false, empty()),
		"none repeated":      {Kind: api.NodeRepeat, Max: 1},
		"no group's Index":   group(0, empty()),
		"too great an Index": group(api.MaxGroups+1, empty()),
		"no name":            named,
		"unsound below":      repeat(0, 0, false, cat(empty(), group(1, api.Node{}))),
		"in itself":          within,
		"too many nodes":     repeat(0, 0, false, cat(many(api.MaxNodes-1, empty())...)),
		"too deep":           repeat(0, 0, false, chain(api.MaxDepth-1, empty(), star)),
	}
}

// TestErrors: P6.1: each error, and which one goes ahead where several apply.
func TestErrors(t *testing.T) {
	a, big, long := runesOf("a"), repeat(3, 3, false, repeat(1000, 1000, false, empty())), make([]int, api.MaxShort+1)
	for what, tree := range unsound() {
		wantErrno(t, what, tree, a, 0, api.ErrTree)
		wantErrno(t, what+", no place", tree, a, 2, api.ErrTree)
		wantErrno(t, what+", too long", tree, long, -1, api.ErrLong)
	}
	// Not sound, and, but for that, of too great a size.
	wantErrno(t, "unsound and big", cat(append(many(3000, empty()), api.Node{})...), a, 0, api.ErrTree)
	wantErrno(t, "too long", empty(), long, 0, api.ErrLong)
	wantErrno(t, "too long, no place", empty(), long, -1, api.ErrLong)
	wantErrno(t, "too long, too big", big, long, 0, api.ErrLong)
	wantErrno(t, "much too long", empty(), make([]int, api.MaxText+1), 0, api.ErrLong)
	wantErrno(t, "too big", big, a, 0, api.ErrBig)
	wantErrno(t, "too big, no place", big, a, -1, api.ErrBig)
	wantErrno(t, "as long as may be", empty(), long[1:], api.MaxShort, api.OK)
}

// TestSizes: P6.1: the size of each kind of nodes, by each row of counts: so many nodes beside it, that it is at the limit, and one more.
func TestSizes(t *testing.T) {
	a := runeOf('a')
	ab := cat(a, runeOf('b')) // of size 3
	// Of counts within one another the sizes leave the range of numbers.
	huge := chain(30, a, func(n api.Node) api.Node { return repeat(1000, 1000, false, n) })
	for what, c := range map[string]struct {
		tree api.Node
		size int
	}{
		"empty": {empty(), 1}, "class": {class('a', 'c', 'e', 'g'), 1}, "none": {class(), 1}, "assert": {assert(api.EndLine), 1},
		"group": {group(1, a), 2}, "cat": {ab, 3}, "alt": {alt(ab, a, a), 6}, "groups": {group(1, group(2, ab)), 5},
		"0 -1": {star(ab), 4}, "1 -1": {repeat(1, -1, false, ab), 4}, "2 -1": {repeat(2, -1, true, ab), 7}, "600 -1": {repeat(600, -1, false, ab), 1801},
		"0 0": {repeat(0, 0, false, ab), 1}, "1 1": {repeat(1, 1, false, ab), 3}, "2 2": {repeat(2, 2, true, ab), 6}, "1000 1000": {repeat(1000, 1000, false, a), 1000},
		"0 1": {repeat(0, 1, false, ab), 4}, "0 2": {repeat(0, 2, true, ab), 8}, "1 2": {repeat(1, 2, false, ab), 7}, "3 5": {repeat(3, 5, false, ab), 17},
		"0 900": {repeat(0, 900, false, a), 1800}, "10 900": {repeat(10, 900, false, a), 1790},
		"0 0 of much": {repeat(0, 0, false, cat(many(100000, a)...)), 1}, "0 0 of huge": {repeat(0, 0, false, huge), 1},
		"3 of 0 0": {repeat(3, 3, false, repeat(0, 0, false, ab)), 3}, "counts in counts": {repeat(2, 4, false, repeat(3, -1, false, repeat(0, 2, false, a))), 2*13 + 2*14},
		"stars": {chain(50, a, star), 51},
	} {
		if s := modelSize(c.tree); s != c.size && what != "0 0 of huge" {
			t.Errorf("%s: size %d; want %d", what, s, c.size)
		}
		pads := many(api.MaxSmall-1-c.size, empty())
		wantErrno(t, what+" at the limit", cat(append(pads, c.tree)...), nil, 0, api.OK)
		wantErrno(t, what+" above the limit", cat(append(pads, c.tree, empty())...), nil, 0, api.ErrBig)
	}
	wantErrno(t, "huge", huge, nil, 0, api.ErrBig)
	wantErrno(t, "huge and any number", chain(30, a, func(n api.Node) api.Node { return repeat(1000, -1, false, n) }), nil, 0, api.ErrBig)
	wantErrno(t, "huge and none", chain(30, a, func(n api.Node) api.Node { return repeat(0, 1000, false, n) }), nil, 0, api.ErrBig)
	wantErrno(t, "huge between much", cat(append(many(1000, huge), many(1000, huge)...)...), nil, 0, api.ErrBig)
	// The whole tree at the limit, with nothing beside it.
	for what, above := range map[string]func(api.Node) api.Node{"groups": func(n api.Node) api.Node { return group(1, n) }, "stars": star} {
		wantErrno(t, what, chain(api.MaxSmall-1, a, above), nil, 0, api.OK)
		wantErrno(t, what, chain(api.MaxSmall, a, above), nil, 0, api.ErrBig)
	}
}

// TestGreatest: W1: trees at the limit over texts at the limit: the walks that do most end, too.
func TestGreatest(t *testing.T) {
	a, full := runeOf('a'), slices.Repeat([]int{'a'}, api.MaxShort)
	inGroup := func(n api.Node) api.Node { return group(1, n) }
	var falling, rising [][]int
	for end := range api.MaxShort + 1 {
		rising = append(rising, []int{0, end})
		falling = append([][]int{{0, end}}, falling...)
	}
	wantParses(t, star(cat(append(many(api.MaxSmall-3, empty()), a)...)), full, 0, falling...)
	wantParses(t, repeat(0, -1, true, cat(append(many(api.MaxSmall-3, empty()), a)...)), full, 0, rising...)
	wantParses(t, chain(api.MaxSmall-1, a, star), full, 0, falling...)
	wantParses(t, cat(many((api.MaxSmall-1)/2, star(a))...), full, 0, falling...)
	wantParses(t, cat(many((api.MaxSmall-1)/2, repeat(0, 1, true, a))...), full, 0, rising...)
	l := parsesOf(t, chain(2, chain(api.MaxSmall-3, a, inGroup), star), full, 0)
	if len(l) != len(falling) || l[0].End != api.MaxShort || !slices.Equal(l[0].Caps, []int{0, 64, 63, 64}) {
		t.Errorf("groups within groups: %v", l)
	}
}

// TestNothingShared: P6.2: what is answered is new memory.
func TestNothingShared(t *testing.T) {
	tree, text := treeOf(t, `((a)|b)*?(a*)`), runesOf("abaab")
	l, want := parsesOf(t, tree, text, 0), parsesOf(t, tree, text, 0)
	if len(l) < 4 {
		t.Fatalf("%v", l)
	}
	for i := range l {
		caps := l[i].Caps[:cap(l[i].Caps)]
		for k := range caps {
			caps[k] = -99
		}
		if !sameParses(l[i+1:], want[i+1:]) {
			t.Fatalf("the Caps of %d are not its own: %v", i, l)
		}
	}
	room := l[:cap(l)]
	for i := range room {
		room[i] = api.Parse{End: -99}
	}
	if again := parsesOf(t, tree, text, 0); !sameParses(again, want) {
		t.Errorf("%v; want %v", again, want)
	}
}

// withRoom is a tree whose lists have spare room, marked.
func withRoom(n api.Node) api.Node {
	n.Ranges = append(slices.Clone(n.Ranges), api.Range{Lo: -7, Hi: -7})[:len(n.Ranges)]
	subs := append(slices.Clone(n.Subs), api.Node{Kind: -7})[:len(n.Subs)]
	for i := range subs {
		subs[i] = withRoom(subs[i])
	}
	n.Subs = subs
	return n
}

// roomMarked tells whether the spare room of a tree is as withRoom made it.
func roomMarked(n api.Node) bool {
	ranges, subs := n.Ranges[:len(n.Ranges)+1], n.Subs[:len(n.Subs)+1]
	if ranges[len(n.Ranges)] != (api.Range{Lo: -7, Hi: -7}) || subs[len(n.Subs)].Kind != -7 {
		return false
	}
	return !slices.ContainsFunc(n.Subs, func(s api.Node) bool { return !roomMarked(s) })
}

// TestHandedIn: P6.2: what is handed in is neither changed, nor its spare room.
func TestHandedIn(t *testing.T) {
	for _, p := range []string{`a`, `a|b|`, `(a|b){2,4}?$`, `(?:(a*)(b??)){2,}[a-z]`, `(?P<x>a){0}\b`} {
		tree := treeOf(t, p)
		roomy := withRoom(tree)
		text := append(runesOf("abab"), -7)[:4]
		got := parsesOf(t, roomy, text, 1)
		if !same(tree, roomy) || !roomMarked(roomy) || !slices.Equal(text[:5], append(runesOf("abab"), -7)) {
			t.Errorf("%q: what was handed in has changed", p)
		}
		// What is handed in may change later on without any answer's changing.
		want := parsesOf(t, copied(tree), runesOf("abab"), 1)
		spoil(roomy)
		clear(text)
		if !sameParses(got, want) {
			t.Errorf("%q: the answer hangs on what was handed in", p)
		}
	}
}

// spoil makes nothing of a tree, in its own memory.
func spoil(n api.Node) {
	for _, sub := range n.Subs {
		spoil(sub)
	}
	clear(n.Subs)
	clear(n.Ranges)
}

// TestEmptyLists: W5: a nil list is as an empty one.
func TestEmptyLists(t *testing.T) {
	for _, n := range []api.Node{empty(), class(), assert(api.EndText), runeOf('a')} {
		other := n
		if other.Ranges == nil {
			other.Ranges = []api.Range{}
		}
		other.Subs = []api.Node{}
		if a, b := parsesOf(t, n, nil, 0), parsesOf(t, other, []int{}, 0); !sameParses(a, b) {
			t.Errorf("%s: %v, and with empty lists %v", shown(n), a, b)
		}
	}
}

// TestAtOneTime: W2: many calls at one time answer what each answers alone, the arguments in common.
func TestAtOneTime(t *testing.T) {
	tree, text := treeOf(t, `(?:(a*)|(b+?)|\b)*(c?){2,3}`), runesOf("aabbc-ab")
	var group sync.WaitGroup
	for at := range len(text) + 1 {
		want := parsesOf(t, tree, text, at)
		for range 4 {
			group.Go(func() {
				for range 20 {
					if l, errno := meaning.Parses(tree, text, at); errno != api.OK || !sameParses(l, want) {
						t.Errorf("from %d: %v, %d; want %v", at, l, errno, want)
					}
				}
			})
		}
	}
	group.Wait()
}

// wantFuzzed holds a pattern over a text against the model, if it is one, and both are small.
func wantFuzzed(t *testing.T, pattern, s string, at int) {
	text := runesOf(s)
	tree, err := syntax.Parse(pattern)
	if err != nil {
		return
	}
	if len(text) > 20 || modelSize(tree) > 200 || at < 0 || at > len(text) {
		meaning.Parses(tree, text, at)
		return
	}
	(&tally{}).wantModel(t, tree, text, at)
	wantCopies(t, tree, text, at)
}
