package mirror_test

import (
	"math/rand"
	"slices"
	"testing"

	"heron/api"
	"heron/meaning"
	"heron/mirror"
	"heron/printer"
	"heron/syntax"
)

// wantModel fails, if a tree's mirror is not the model's, or is not what P8.5 says of it.
func wantModel(t *testing.T, tree api.Node) {
	t.Helper()
	wantMirror(t, tree, model(tree))
	m, errno := mirror.Mirror(tree)
	if errno != api.OK {
		return
	}
	if printer.Sound(m) != api.OK || nodesOf(m) > nodesOf(tree) || depthOf(m) > depthOf(tree) {
		t.Errorf("%s: %s is not sound, or has more nodes", shown(tree), shown(m))
	}
	// Without groups a tree is its mirror's mirror.
	wantMirror(t, m, ungrouped(tree))
	if groups := nodesOf(tree) - nodesOf(ungrouped(tree)); nodesOf(m) != nodesOf(tree)-groups {
		t.Errorf("%s: %s: of %d nodes, %d of them groups, %d are left", shown(tree), shown(m), nodesOf(tree), groups, nodesOf(m))
	}
}

// ungrouped is a tree without its groups: in the place of each stands its Sub.
func ungrouped(n api.Node) api.Node {
	return changed(n, func(n api.Node) api.Node {
		if n.Kind == api.NodeGroup {
			return n.Subs[0]
		}
		return n
	})
}

// pair: the places of a parse, from and to.
type pair struct{ from, to int }

// pairsOf are the places of all parses of a tree; false: they are not told.
func pairsOf(tree api.Node, text []int) ([]pair, bool) {
	var l []pair
	for at := range len(text) + 1 {
		parses, errno := meaning.Parses(tree, text, at)
		if errno != api.OK {
			return nil, false
		}
		for _, p := range parses {
			l = append(l, pair{at, p.End})
		}
	}
	return l, true
}

// wantPairs fails, if a tree's mirror fits other places of the text read backward; else it tells how many places the tree fits (-1: they are not told).
func wantPairs(t *testing.T, tree api.Node, text []int) int {
	t.Helper()
	m, back, n := mirrorOf(t, tree), mirror.Back(text), len(text)
	want, told := pairsOf(tree, text)
	got, toldOfMirror := pairsOf(m, back)
	if !told || !toldOfMirror {
		return -1
	}
	for i, p := range got {
		got[i] = pair{n - p.to, n - p.from}
	}
	order := func(a, b pair) int { return (a.from-b.from)*(n+1) + a.to - b.to }
	slices.SortFunc(got, order)
	slices.SortFunc(want, order)
	if !slices.Equal(got, want) {
		t.Errorf("%s over %v: %v; its mirror %s over %v: %v", shown(tree), text, want, shown(m), back, got)
	}
	return len(want)
}

// counts are a few of every kind.
func counts() [][2]int {
	return [][2]int{{0, -1}, {1, -1}, {2, -1}, {0, 0}, {0, 1}, {1, 1}, {0, 2}, {1, 2}, {2, 2}, {1, 3}}
}

// smallTrees are all trees of so many nodes of a few leaves and those counts; a group's Index is 1 or 2, by how high it stands.
func smallTrees(nodes int) []api.Node {
	if nodes == 1 {
		return []api.Node{empty(), runeOf('a'), runeOf('b'), assert(api.WordEdge), assert(api.BeginText), assert(api.EndLine)}
	}
	var l []api.Node
	for _, sub := range smallTrees(nodes - 1) {
		l = append(l, group(1+nodes%2, sub))
		for i, c := range counts() {
			l = append(l, repeat(c[0], c[1], i%3 == nodes%3, sub))
		}
	}
	for left := 1; left < nodes-1; left++ {
		for _, a := range smallTrees(left) {
			for _, b := range smallTrees(nodes - 1 - left) {
				l = append(l, cat(a, b), alt(a, b))
			}
		}
	}
	return l
}

// TestSmallTrees: P8.1, P8.4, P8.5: every small tree; the places that it fits in short texts.
func TestSmallTrees(t *testing.T) {
	held, texts := 0, [][]int{nil, runesOf("a"), runesOf("ab"), runesOf("ab-a"), runesOf("a\nbb")}
	for nodes := 1; nodes <= 5; nodes++ {
		for i, tree := range smallTrees(nodes) {
			if nodes == 5 && i%19 != 0 {
				continue
			}
			wantModel(t, tree)
			for _, text := range texts {
				held += max(0, wantPairs(t, tree, text))
			}
		}
	}
	if held < 100000 {
		t.Errorf("%d places were held against the tree's: too few", held)
	}
}

// grower makes trees by chance.
type grower struct {
	*rand.Rand
	groups int
}

// leaf is one without anything below it.
func (g *grower) leaf() api.Node {
	switch g.Intn(7) {
	case 0:
		return empty()
	case 1, 2:
		return assert(1 << g.Intn(6))
	case 3:
		return class('a', 'b', 'x', 'z')
	}
	return runeOf([]int{'a', 'b', '-', 10}[g.Intn(4)])
}

// tree is one of at most so many nodes one below another.
func (g *grower) tree(deep int) api.Node {
	if deep == 1 {
		return g.leaf()
	}
	switch g.Intn(9) {
	case 0:
		return g.leaf()
	case 1, 2, 3:
		return cat(g.trees(deep - 1)...)
	case 4, 5:
		return alt(g.trees(deep - 1)...)
	case 6:
		g.groups = g.groups%api.MaxGroups + 1
		return named(g.groups, []string{"", "x", "y_1"}[g.Intn(3)], g.tree(deep-1))
	}
	c := counts()[g.Intn(len(counts()))]
	return repeat(c[0], c[1], g.Intn(3) == 0, g.tree(deep-1))
}

func (g *grower) trees(deep int) []api.Node {
	var l []api.Node
	for range 2 + g.Intn(3) {
		l = append(l, g.tree(deep))
	}
	return l
}

// text is one of at most so many runes.
func (g *grower) text(most int) []int {
	var l []int
	for range g.Intn(most + 1) {
		l = append(l, []int{'a', 'b', 'a', 'b', '-', 10}[g.Intn(6)])
	}
	return l
}

// TestMadeTrees: P8.1, P8.2, P8.4, P8.5: greater trees, and texts, made by chance.
func TestMadeTrees(t *testing.T) {
	g := &grower{Rand: rand.New(rand.NewSource(8))}
	told, fits := 0, 0
	for range 15000 {
		g.groups = 0
		tree, text := g.tree(2+g.Intn(5)), g.text(8)
		wantModel(t, tree)
		wantBack(t, text, modelBack(text))
		wantBack(t, mirror.Back(text), text)
		switch places := wantPairs(t, tree, text); {
		case places > 0:
			fits++
			told++
		case places == 0:
			told++
		}
	}
	if told < 12000 || fits < 6000 {
		t.Errorf("the places of %d were told, %d fit any: too few", told, fits)
	}
}

// FuzzMirror holds ever more patterns against the model, and the places that they fit against those of their mirrors.
func FuzzMirror(f *testing.F) {
	for _, x := range examples() {
		f.Add(x.pattern, "aab-a")
	}
	f.Add(`(?:(a{0,3}|b)^{2,}?|(?:\bab$)){3}`, "ab\nba")
	f.Fuzz(func(t *testing.T, pattern, s string) {
		text := runesOf(s)
		wantBack(t, text, modelBack(text))
		tree, err := syntax.Parse(pattern)
		if err != nil || nodesOf(tree) > 1000 {
			return
		}
		wantModel(t, tree)
		if len(text) <= 20 {
			wantPairs(t, tree, text)
		}
	})
}
