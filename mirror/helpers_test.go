package mirror_test

import (
	"fmt"
	"slices"
	"testing"

	"heron/api"
	"heron/mirror"
	"heron/printer"
	"heron/syntax"
)

// class is one of ranges, told by pairs of runes.
func class(l ...int) api.Node {
	n := api.Node{Kind: api.NodeClass}
	for i := 0; i < len(l); i += 2 {
		n.Ranges = append(n.Ranges, api.Range{Lo: l[i], Hi: l[i+1]})
	}
	return n
}

// runeOf is the class of one rune.
func runeOf(r int) api.Node { return class(r, r) }

func empty() api.Node { return api.Node{Kind: api.NodeEmpty} }

func assert(which int) api.Node { return api.Node{Kind: api.NodeAssert, Assert: which} }

func cat(subs ...api.Node) api.Node { return api.Node{Kind: api.NodeCat, Subs: subs} }

func alt(subs ...api.Node) api.Node { return api.Node{Kind: api.NodeAlt, Subs: subs} }

func repeat(least, most int, lazy bool, sub api.Node) api.Node {
	return api.Node{Kind: api.NodeRepeat, Min: least, Max: most, Lazy: lazy, Subs: []api.Node{sub}}
}

// star and quest are two loops, not lazy.
func star(sub api.Node) api.Node { return repeat(0, -1, false, sub) }

func quest(sub api.Node) api.Node { return repeat(0, 1, false, sub) }

func group(index int, sub api.Node) api.Node {
	return api.Node{Kind: api.NodeGroup, Index: index, Subs: []api.Node{sub}}
}

func named(index int, name string, sub api.Node) api.Node {
	return api.Node{Kind: api.NodeGroup, Index: index, Name: name, Subs: []api.Node{sub}}
}

// many are so many nodes, each the same.
func many(count int, n api.Node) []api.Node { return slices.Repeat([]api.Node{n}, count) }

// chain is a node below so many others, each made by above.
func chain(count int, last api.Node, above func(api.Node) api.Node) api.Node {
	for range count {
		last = above(last)
	}
	return last
}

// treeOf is a pattern's tree.
func treeOf(t testing.TB, pattern string) api.Node {
	t.Helper()
	tree, err := syntax.Parse(pattern)
	if err != nil {
		t.Fatalf("%q: %v", pattern, err)
	}
	return tree
}

// runesOf are a string's runes.
func runesOf(s string) []int {
	var l []int
	for _, r := range s {
		l = append(l, int(r))
	}
	return l
}

// copied is a tree in memory of its own.
func copied(n api.Node) api.Node {
	n.Ranges = slices.Clone(n.Ranges)
	n.Subs = slices.Clone(n.Subs)
	for i := range n.Subs {
		n.Subs[i] = copied(n.Subs[i])
	}
	return n
}

// changed is a copy of a tree in which each node has been handed to change, those below ahead of those above.
func changed(n api.Node, change func(api.Node) api.Node) api.Node {
	n.Subs = slices.Clone(n.Subs)
	for i := range n.Subs {
		n.Subs[i] = changed(n.Subs[i], change)
	}
	return change(n)
}

// same tells whether two trees are the same; a nil list is as an empty one.
func same(a, b api.Node) bool {
	if a.Kind != b.Kind || a.Assert != b.Assert || a.Min != b.Min || a.Max != b.Max || a.Lazy != b.Lazy || a.Index != b.Index || a.Name != b.Name {
		return false
	}
	return slices.Equal(a.Ranges, b.Ranges) && slices.EqualFunc(a.Subs, b.Subs, same)
}

// nodesOf is how many nodes a tree has.
func nodesOf(n api.Node) int {
	sum := 1
	for _, sub := range n.Subs {
		sum += nodesOf(sub)
	}
	return sum
}

// depthOf is how many nodes of a tree lie one below another.
func depthOf(n api.Node) int {
	most := 0
	for _, sub := range n.Subs {
		most = max(most, depthOf(sub))
	}
	return most + 1
}

// shown is a tree as it is told by a failing test: its pattern, if it is one's.
func shown(n api.Node) string {
	text, errno := printer.Print(n)
	if errno != api.OK {
		text = fmt.Sprint(n)
	}
	if len(text) > 300 {
		return text[:300] + ".."
	}
	return text
}

// mirrorOf is the mirror of a tree that is not to be refused.
func mirrorOf(t testing.TB, tree api.Node) api.Node {
	t.Helper()
	m, errno := mirror.Mirror(tree)
	if errno != api.OK {
		t.Fatalf("%s: %d", shown(tree), errno)
	}
	return m
}

// wantMirror fails, if a tree has another mirror.
func wantMirror(t *testing.T, tree, want api.Node) {
	t.Helper()
	m, errno := mirror.Mirror(tree)
	if errno != api.OK || !same(m, want) {
		t.Errorf("%s: %s, %d; want %s", shown(tree), shown(m), errno, shown(want))
	}
}

// wantErrno fails, if Mirror does not answer that, or anything beside an error.
func wantErrno(t *testing.T, what string, tree api.Node, want api.Errno) {
	t.Helper()
	m, errno := mirror.Mirror(tree)
	if errno != want {
		t.Errorf("%s: %d; want %d", what, errno, want)
	}
	if errno != api.OK && !same(m, api.Node{}) {
		t.Errorf("%s: %s beside %d", what, shown(m), errno)
	}
}

// wantBack fails, if a text read backward is another one.
func wantBack(t *testing.T, text, want []int) {
	t.Helper()
	if got := mirror.Back(text); !slices.Equal(got, want) {
		t.Errorf("%v: %v; want %v", text, got, want)
	}
}
