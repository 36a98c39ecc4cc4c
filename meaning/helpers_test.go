package meaning_test

import (
	"fmt"
	"slices"
	"testing"

	"heron/api"
	"heron/meaning"
	"heron/printer"
	"heron/syntax"
)

// class is one of ranges, told by pairs of runes.
func class(l ...int) api.Node {
	n := api.Node{Kind: api.NodeClass}
	for i := 0; i < len(l); i += 2 {
		n.Ranges = append(n.Ranges, api.Range{Lo: l[i], Hi: l[i+1]})
	}
	return n
}

// runeOf is the class of one rune.
func runeOf(r int) api.Node { return class(r, r) }

func empty() api.Node { return api.Node{Kind: api.NodeEmpty} }

func assert(which int) api.Node { return api.Node{Kind: api.NodeAssert, Assert: which} }

func cat(subs ...api.Node) api.Node { return api.Node{Kind: api.NodeCat, Subs: subs} }

func alt(subs ...api.Node) api.Node { return api.Node{Kind: api.NodeAlt, Subs: subs} }

func repeat(least, most int, lazy bool, sub api.Node) api.Node {
	return api.Node{Kind: api.NodeRepeat, Min: least, Max: most, Lazy: lazy, Subs: []api.Node{sub}}
}

// star is a node any number of times.
func star(sub api.Node) api.Node { return repeat(0, -1, false, sub) }

func group(index int, sub api.Node) api.Node {
	return api.Node{Kind: api.NodeGroup, Index: index, Subs: []api.Node{sub}}
}

// many are so many nodes, each the same.
func many(count int, n api.Node) []api.Node { return slices.Repeat([]api.Node{n}, count) }

// chain is a node below so many others, each made by above.
func chain(count int, last api.Node, above func(api.Node) api.Node) api.Node {
	for range count {
		last = above(last)
	}
	return last
}

// treeOf is a pattern's tree.
func treeOf(t testing.TB, pattern string) api.Node {
	t.Helper()
	tree, err := syntax.Parse(pattern)
	if err != nil {
		t.Fatalf("%q: %v", pattern, err)
	}
	return tree
}

// runesOf are a string's runes.
func runesOf(s string) []int {
	var l []int
	for _, r := range s {
		l = append(l, int(r))
	}
	return l
}

// copied is a tree in memory of its own.
func copied(n api.Node) api.Node {
	n.Ranges = slices.Clone(n.Ranges)
	n.Subs = slices.Clone(n.Subs)
	for i := range n.Subs {
		n.Subs[i] = copied(n.Subs[i])
	}
	return n
}

// changed is a copy of a tree in which each node has been handed to change, those below ahead of those above.
func changed(n api.Node, change func(api.Node) api.Node) api.Node {
	n.Subs = slices.Clone(n.Subs)
	for i := range n.Subs {
		n.Subs[i] = changed(n.Subs[i], change)
	}
	return change(n)
}

// same tells whether two trees are the same; a nil list is as an empty one.
func same(a, b api.Node) bool {
	if a.Kind != b.Kind || a.Assert != b.Assert || a.Min != b.Min || a.Max != b.Max || a.Lazy != b.Lazy || a.Index != b.Index || a.Name != b.Name {
		return false
	}
	return slices.Equal(a.Ranges, b.Ranges) && slices.EqualFunc(a.Subs, b.Subs, same)
}

func sameParse(a, b api.Parse) bool { return a.End == b.End && slices.Equal(a.Caps, b.Caps) }

func sameParses(a, b []api.Parse) bool { return slices.EqualFunc(a, b, sameParse) }

// endsOf are the Ends of parses, in their order.
func endsOf(l []api.Parse) []int {
	var ends []int
	for _, p := range l {
		ends = append(ends, p.End)
	}
	return ends
}

// sorted is a list in rising order.
func sorted(l []int) []int {
	l = slices.Clone(l)
	slices.Sort(l)
	return l
}

// shown is a tree as it is told by a failing test: its pattern, if it is one's.
func shown(n api.Node) string {
	text, errno := printer.Print(n)
	if errno != api.OK {
		text = fmt.Sprint(n)
	}
	if len(text) > 300 {
		return text[:300] + ".."
	}
	return text
}

// parsesOf are the parses of a tree that is not to be refused.
func parsesOf(t testing.TB, tree api.Node, text []int, at int) []api.Parse {
	t.Helper()
	l, errno := meaning.Parses(tree, text, at)
	if errno != api.OK {
		t.Fatalf("%s over %v from %d: %d", shown(tree), text, at, errno)
	}
	return l
}

// wantParses fails, if a tree has other parses; each is told as its Caps, of which the second is its End.
func wantParses(t *testing.T, tree api.Node, text []int, at int, want ...[]int) {
	t.Helper()
	l := parsesOf(t, tree, text, at)
	var parses []api.Parse
	for _, caps := range want {
		parses = append(parses, api.Parse{End: caps[1], Caps: caps})
	}
	if !sameParses(l, parses) {
		t.Errorf("%s over %v from %d: %v; want %v", shown(tree), text, at, l, parses)
	}
}

// wantErrno fails, if a call does not answer that, and nothing beside it.
func wantErrno(t *testing.T, what string, tree api.Node, text []int, at int, want api.Errno) {
	t.Helper()
	l, errno := meaning.Parses(tree, text, at)
	if errno != want || errno != api.OK && l != nil {
		t.Errorf("%s: %v, %d; want %d", what, l, errno, want)
	}
}
