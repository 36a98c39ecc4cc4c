package printer_test

import (
	"fmt"
	"slices"
	"testing"

	"heron/api"
	"heron/printer"
	"heron/syntax"
)

// class is one of ranges, told by pairs of runes.
func class(l ...int) api.Node {
	n := api.Node{Kind: api.NodeClass}
	for i := 0; i < len(l); i += 2 {
		n.Ranges = append(n.Ranges, api.Range{Lo: l[i], Hi: l[i+1]})
	}
	return n
}

// runeOf is the class of one rune.
func runeOf(r int) api.Node { return class(r, r) }

func empty() api.Node { return api.Node{Kind: api.NodeEmpty} }

func assert(which int) api.Node { return api.Node{Kind: api.NodeAssert, Assert: which} }

func cat(subs ...api.Node) api.Node { return api.Node{Kind: api.NodeCat, Subs: subs} }

func alt(subs ...api.Node) api.Node { return api.Node{Kind: api.NodeAlt, Subs: subs} }

func repeat(least, most int, lazy bool, sub api.Node) api.Node {
	return api.Node{Kind: api.NodeRepeat, Min: least, Max: most, Lazy: lazy, Subs: []api.Node{sub}}
}

// star is a node any number of times.
func star(sub api.Node) api.Node { return repeat(0, -1, false, sub) }

func group(index int, name string, sub api.Node) api.Node {
	return api.Node{Kind: api.NodeGroup, Index: index, Name: name, Subs: []api.Node{sub}}
}

// many are so many nodes, each the same.
func many(count int, n api.Node) []api.Node { return slices.Repeat([]api.Node{n}, count) }

// same tells whether two trees are the same; a nil list is as an empty one.
func same(a, b api.Node) bool {
	if a.Kind != b.Kind || a.Assert != b.Assert || a.Min != b.Min || a.Max != b.Max || a.Lazy != b.Lazy || a.Index != b.Index || a.Name != b.Name {
		return false
	}
	return slices.Equal(a.Ranges, b.Ranges) && slices.EqualFunc(a.Subs, b.Subs, same)
}

// copied is a tree in memory of its own.
func copied(n api.Node) api.Node {
	n.Ranges = slices.Clone(n.Ranges)
	n.Subs = slices.Clone(n.Subs)
	for i := range n.Subs {
		n.Subs[i] = copied(n.Subs[i])
	}
	return n
}

// numbered gives the groups of a tree their Indexes, from the outside and the left; count is how many there are ahead of it.
func numbered(n *api.Node, count int) int {
	if n.Kind == api.NodeGroup {
		count++
		n.Index = count
	}
	for i := range n.Subs {
		count = numbered(&n.Subs[i], count)
	}
	return count
}

// shown is a tree, or a pattern, as it is told by a failing test.
func shown(of any) string {
	text := fmt.Sprint(of)
	if len(text) > 300 {
		return text[:300] + ".."
	}
	return text
}

// wantErrnos fails, if Sound, Right and Print don't answer these.
func wantErrnos(t *testing.T, what string, tree api.Node, sound, right, print api.Errno) {
	t.Helper()
	if e := printer.Sound(tree); e != sound {
		t.Errorf("%s: Sound is %d, want %d", what, e, sound)
	}
	if e := printer.Right(tree); e != right {
		t.Errorf("%s: Right is %d, want %d", what, e, right)
	}
	text, e := printer.Print(tree)
	if e != print || e != api.OK && text != "" {
		t.Errorf("%s: Print is %q, %d, want %d", what, shown(text), e, print)
	}
}

// wantUnsound fails, if a tree is not refused by all.
func wantUnsound(t *testing.T, what string, tree api.Node) {
	t.Helper()
	wantErrnos(t, what, tree, api.ErrTree, api.ErrTree, api.ErrTree)
}

// wantWrong fails, if a tree is not sound, or is right.
func wantWrong(t *testing.T, what string, tree api.Node) {
	t.Helper()
	wantErrnos(t, what, tree, api.OK, api.ErrTree, api.ErrTree)
}

// wantBig fails, if a tree is not right, or its pattern not too long.
func wantBig(t *testing.T, what string, tree api.Node) {
	t.Helper()
	wantErrnos(t, what, tree, api.OK, api.OK, api.ErrBig)
}

// wantPrint fails, if a tree is not right, has another pattern, or is not that pattern's tree.
func wantPrint(t *testing.T, tree api.Node, want string) {
	t.Helper()
	if printer.Sound(tree) != api.OK || printer.Right(tree) != api.OK {
		t.Errorf("%q: its tree is not right", shown(want))
		return
	}
	got, e := printer.Print(tree)
	if got != want || e != api.OK {
		t.Errorf("%q, %d; want %q", shown(got), e, shown(want))
		return
	}
	back, err := syntax.Parse(got)
	if err != nil || !same(back, tree) {
		t.Errorf("%q is the pattern of another tree: %s, %v", shown(got), shown(back), err)
	}
}
