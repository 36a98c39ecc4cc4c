package simplify_test

import (
	"math/rand"
	"slices"
	"testing"

	"heron/api"
	"heron/meaning"
	"heron/printer"
	"heron/simplify"
	"heron/syntax"
)

// wantModel fails, if a tree's simple form or its size is not the model's, or is not simple.
func wantModel(t *testing.T, tree api.Node) {
	t.Helper()
	want := model(tree)
	wantSimple(t, tree, want)
	s, errno := simplify.Simplify(tree)
	if errno != api.OK {
		return
	}
	if printer.Sound(s) != api.OK || !isSimple(s) {
		t.Errorf("%s: %s is not simple", shown(tree), shown(s))
	}
	wantSimple(t, s, s)
	if got, left := groupsOf(s), groupsOf(changed(tree, withoutNone)); !slices.Equal(got, left) {
		t.Errorf("%s: %s has the groups %v; want %v", shown(tree), shown(s), got, left)
	}
}

// isSimple tells whether there is in a tree nothing of what P7.5 rules out.
func isSimple(n api.Node) bool {
	counts := [2]int{n.Min, n.Max}
	if n.Kind == api.NodeRepeat && !slices.Contains([][2]int{{0, -1}, {1, -1}, {0, 1}}, counts) {
		return false
	}
	for _, sub := range n.Subs {
		inLike := sub.Kind == n.Kind && (n.Kind == api.NodeCat || n.Kind == api.NodeAlt)
		if inLike || n.Kind == api.NodeCat && sub.Kind == api.NodeEmpty || !isSimple(sub) {
			return false
		}
	}
	return true
}

// withoutNone is a node, or an empty one, if its count is 0.
func withoutNone(n api.Node) api.Node {
	if n.Kind == api.NodeRepeat && n.Max == 0 {
		return empty()
	}
	return n
}

// nameOfGroup is how a group is told from others.
type nameOfGroup struct {
	index int
	name  string
}

// groupsOf are the groups of a tree, each once, in the order of their first ones.
func groupsOf(n api.Node) []nameOfGroup {
	var l []nameOfGroup
	if n.Kind == api.NodeGroup {
		l = append(l, nameOfGroup{n.Index, n.Name})
	}
	for _, sub := range n.Subs {
		for _, g := range groupsOf(sub) {
			if !slices.Contains(l, g) {
				l = append(l, g)
			}
		}
	}
	return l
}

// wantParses fails, if a tree's simple form has other parses than the tree, but for captures of groups that it has lost; false: not both are told.
func wantParses(t *testing.T, tree api.Node, text []int, at int) bool {
	t.Helper()
	s := simple(t, tree)
	want, errnoOfTree := meaning.Parses(tree, text, at)
	got, errnoOfForm := meaning.Parses(s, text, at)
	if errnoOfTree != api.OK || errnoOfForm != api.OK {
		return false
	}
	alike := len(got) == len(want)
	for i := 0; alike && i < len(got); i++ {
		caps := got[i].Caps
		for len(caps) < len(want[i].Caps) {
			caps = append(caps, -1)
		}
		alike = got[i].End == want[i].End && slices.Equal(caps, want[i].Caps)
	}
	if !alike {
		t.Errorf("%s over %v from %d: %v; its simple form %s: %v", shown(tree), text, at, want, shown(s), got)
	}
	return true
}

// counts are those of every row of the chapter.
func counts() [][2]int {
	return [][2]int{{0, -1}, {1, -1}, {2, -1}, {3, -1}, {0, 0}, {0, 1}, {1, 1}, {0, 2}, {1, 2}, {2, 2}, {0, 3}, {1, 3}, {3, 3}}
}

// smallTrees are all trees of so many nodes of a few leaves and those counts; a group's Index is 1 or 2, by how high it stands.
func smallTrees(nodes int) []api.Node {
	if nodes == 1 {
		return []api.Node{empty(), runeOf('a'), assert(api.WordEdge)}
	}
	var l []api.Node
	for _, sub := range smallTrees(nodes - 1) {
		l = append(l, group(1+nodes%2, sub))
		for i, c := range counts() {
			l = append(l, repeat(c[0], c[1], i%3 == nodes%3, sub))
		}
	}
	for left := 1; left < nodes-1; left++ {
		for _, a := range smallTrees(left) {
			for _, b := range smallTrees(nodes - 1 - left) {
				l = append(l, cat(a, b), alt(a, b))
			}
		}
	}
	return l
}

// TestSmallTrees: P7.1, P7.2, P7.4 to P7.6: every small tree; its parses over short texts.
func TestSmallTrees(t *testing.T) {
	held, texts := 0, [][]int{nil, runesOf("a"), runesOf("aa"), runesOf("a-aa")}
	for nodes := 1; nodes <= 5; nodes++ {
		for i, tree := range smallTrees(nodes) {
			if nodes == 5 && i%7 != 0 {
				continue
			}
			wantModel(t, tree)
			for _, text := range texts {
				if wantParses(t, tree, text, len(text)/3) {
					held++
				}
			}
		}
	}
	if held < 100000 {
		t.Errorf("the parses of %d were held against the tree's: too few", held)
	}
}

// grower makes trees by chance.
type grower struct {
	*rand.Rand
	groups int
	counts [][2]int
}

func newGrower(seed int64, counts [][2]int) *grower {
	return &grower{Rand: rand.New(rand.NewSource(seed)), counts: counts}
}

// leaf is one without anything below it.
func (g *grower) leaf() api.Node {
	switch g.Intn(6) {
	case 0, 1:
		return empty()
	case 2:
		return assert(1 << g.Intn(6))
	case 3:
		return class('a', 'b', 'x', 'z')
	}
	return runeOf([]int{'a', 'b', '-', 10}[g.Intn(4)])
}

// tree is one of at most so many nodes one below another.
func (g *grower) tree(deep int) api.Node {
	if deep == 1 {
		return g.leaf()
	}
	switch g.Intn(9) {
	case 0:
		return g.leaf()
	case 1, 2:
		return cat(g.trees(deep - 1)...)
	case 3, 4:
		return alt(g.trees(deep - 1)...)
	case 5:
		g.groups = g.groups%api.MaxGroups + 1
		return named(g.groups, []string{"", "x", "y_1"}[g.Intn(3)], g.tree(deep-1))
	}
	c := g.counts[g.Intn(len(g.counts))]
	return repeat(c[0], c[1], g.Intn(3) == 0, g.tree(deep-1))
}

func (g *grower) trees(deep int) []api.Node {
	var l []api.Node
	for range 2 + g.Intn(3) {
		l = append(l, g.tree(deep))
	}
	return l
}

// text is one of at most so many runes.
func (g *grower) text(most int) []int {
	var l []int
	for range g.Intn(most + 1) {
		l = append(l, []int{'a', 'b', 'a', 'b', '-', 10}[g.Intn(6)])
	}
	return l
}

// TestMadeTrees: P7.1, P7.2, P7.4 to P7.6: greater trees, made by chance.
func TestMadeTrees(t *testing.T) {
	g := newGrower(7, counts())
	held, parsed := 0, 0
	for range 30000 {
		g.groups = 0
		tree := g.tree(2 + g.Intn(5))
		if measureOf(tree).size() > 3000 || nodesOf(tree) > 300 {
			continue
		}
		held++
		wantModel(t, tree)
		text := g.text(8)
		if wantParses(t, tree, text, g.Intn(len(text)+1)) {
			parsed++
		}
	}
	if held < 20000 || parsed < 15000 {
		t.Errorf("%d were held against the model, the parses of %d against the tree's: too few", held, parsed)
	}
}

// TestGreatCounts: P7.1, P7.2: the sizes of trees with any counts, against those that are reckoned without limits.
func TestGreatCounts(t *testing.T) {
	g := newGrower(71, append(counts(), [2]int{5, 40}, [2]int{90, -1}, [2]int{100, 100}, [2]int{0, 300}, [2]int{1000, 1000}, [2]int{1000, -1}, [2]int{1, 1000}))
	fits, big := 0, 0
	for range 1500 {
		tree := g.tree(3 + g.Intn(5))
		m := measureOf(tree)
		wantErrno(t, shown(tree), tree, m.errno(), m.size())
		if m.errno() == api.OK {
			fits++
		} else {
			big++
		}
	}
	if fits < 700 || big < 150 {
		t.Errorf("%d fit, %d are too big: too few", fits, big)
	}
}

// TestLimitsOfAny: P7.1, P7.2: with so much around a tree that it is at a limit, and one more.
func TestLimitsOfAny(t *testing.T) {
	g := newGrower(72, append(counts(), [2]int{0, 300}, [2]int{20, 70}))
	for range 20 {
		tree := g.tree(2 + g.Intn(5))
		m := measureOf(tree)
		size := m.size()
		if size > 50000 || depthOf(tree) > 20 {
			continue
		}
		rest := api.MaxNodes - 2 - size
		wantErrno(t, "at the size of "+shown(tree), cat(group(1, tree), fill(rest)), api.OK, api.MaxNodes)
		wantErrno(t, "above the size of "+shown(tree), cat(group(1, tree), fill(rest+1)), api.ErrBig, api.MaxNodes+1)
		// So the simple form is deeper than the tree, which has to be sound.
		deeper := repeat(0, 12, false, group(1, tree))
		all := measureOf(deeper)
		if all.size() > 100000 {
			continue
		}
		rest = api.MaxDepth - int(all.depth.Int64())
		wantErrno(t, "at the depth of "+shown(tree), chain(rest, deeper, star), api.OK, all.size()+rest)
		wantErrno(t, "above the depth of "+shown(tree), chain(rest+1, deeper, star), api.ErrBig, all.size()+rest+1)
	}
}

// FuzzSimplify holds ever more patterns against the model, and their parses against those of their trees.
func FuzzSimplify(f *testing.F) {
	for _, x := range examples() {
		f.Add(x.pattern, "aab-a", 1)
	}
	f.Add(`(?:(a{0,3}|b){2,}?|(?:)){3}`, "abba", 0)
	f.Fuzz(func(t *testing.T, pattern, s string, at int) {
		tree, err := syntax.Parse(pattern)
		if err != nil || nodesOf(tree) > 1000 {
			return
		}
		m := measureOf(tree)
		wantErrno(t, pattern, tree, m.errno(), m.size())
		if m.size() > 1000 || m.errno() != api.OK {
			return
		}
		wantParses(t, tree, runesOf(s), at)
		if copiesOf(tree) < 1e5 {
			wantModel(t, tree)
		}
	})
}

// copiesOf is how often the model makes something of a node of a tree: also of what comes to nothing.
func copiesOf(n api.Node) float64 {
	sum := 1.0
	for _, sub := range n.Subs {
		sum += copiesOf(sub)
	}
	if n.Kind == api.NodeRepeat {
		return sum * float64(max(n.Min, n.Max, 1))
	}
	return sum
}
