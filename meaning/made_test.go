package meaning_test

import (
	"math/rand"
	"regexp"
	"slices"
	"strconv"
	"testing"

	"heron/api"
	"heron/printer"
)

// eachText hands on every text of at most so many of some runes.
func eachText(some []int, most int, f func([]int)) {
	text := []int{}
	var more func(left int)
	more = func(left int) {
		f(text)
		if left == 0 {
			return
		}
		for _, r := range some {
			text = append(text, r)
			more(left - 1)
			text = text[:len(text)-1]
		}
	}
	more(most)
}

// tally counts what was held against the model, and what had too many walks for it.
type tally struct{ held, left int }

// wantModel fails, if a tree's parses at a place are not those of the model, or what the chapter says follows does not.
func (c *tally) wantModel(t *testing.T, tree api.Node, text []int, at int) {
	t.Helper()
	got := parsesOf(t, tree, text, at)
	wantEnds(t, tree, text, at, got)
	wantPlaces(t, tree, text, at, got)
	want, whole := modelParses(tree, text, at, 20000)
	if !whole {
		c.left++
		return
	}
	c.held++
	if !sameParses(got, want) {
		t.Errorf("%s over %v from %d: %v; the model has %v", shown(tree), text, at, got, want)
	}
}

// wantEnds fails, if the Ends are not those of P6.3, each once.
func wantEnds(t *testing.T, tree api.Node, text []int, at int, got []api.Parse) {
	t.Helper()
	if want := modelEnds(tree, text, at).listed(); !slices.Equal(sorted(endsOf(got)), want) {
		t.Errorf("%s over %v from %d: Ends %v; want %v", shown(tree), text, at, endsOf(got), want)
	}
}

// wantPlaces fails, if captures are not as P6.5 has them.
func wantPlaces(t *testing.T, tree api.Node, text []int, at int, got []api.Parse) {
	t.Helper()
	for _, p := range got {
		ok := len(p.Caps) == 2*modelGreatest(tree)+2 && p.Caps[0] == at && p.Caps[1] == p.End
		for k := 0; ok && k < len(p.Caps); k += 2 {
			first, second := p.Caps[k], p.Caps[k+1]
			ok = first == -1 && second == -1 || at <= first && first <= second && second <= p.End
		}
		if !ok {
			t.Errorf("%s over %v from %d: End %d, Caps %v", shown(tree), text, at, p.End, p.Caps)
		}
	}
}

// leaves are what small trees end in.
func leaves() []api.Node {
	return []api.Node{empty(), runeOf('a'), class('a', 'b'), assert(api.WordEdge)}
}

// counts are those of every row of the table of the unfolded form.
func counts() [][2]int {
	return [][2]int{{0, -1}, {1, -1}, {2, -1}, {0, 0}, {0, 1}, {1, 1}, {0, 2}, {1, 2}, {2, 2}}
}

// smallTrees are all trees of so many nodes of those leaves and counts; a group's Index is 1 or 2, by how high it stands.
func smallTrees(nodes int) []api.Node {
	if nodes == 1 {
		return leaves()
	}
	var l []api.Node
	for _, sub := range smallTrees(nodes - 1) {
		l = append(l, group(1+nodes%2, sub))
		for _, c := range counts() {
			l = append(l, repeat(c[0], c[1], false, sub), repeat(c[0], c[1], true, sub))
		}
	}
	for left := 1; left < nodes-1; left++ {
		for _, a := range smallTrees(left) {
			for _, b := range smallTrees(nodes - 1 - left) {
				l = append(l, cat(a, b), alt(a, b))
			}
		}
	}
	return l
}

// TestSmallTrees: P6.1, P6.3, P6.5: every small tree, over every short text, from every place.
func TestSmallTrees(t *testing.T) {
	c := &tally{}
	for nodes := 1; nodes <= 4; nodes++ {
		long := 3
		if nodes == 4 {
			long = 2
		}
		for _, tree := range smallTrees(nodes) {
			eachText([]int{'a', '-'}, long, func(text []int) {
				for at := range len(text) + 1 {
					c.wantModel(t, tree, text, at)
				}
			})
		}
	}
	if c.left > 0 || c.held < 100000 {
		t.Errorf("%d were held against the model, %d were not", c.held, c.left)
	}
}

// grower makes trees by chance.
type grower struct {
	*rand.Rand
	groups int
	full   bool // loops are of nothing that fits without a rune
}

// leaf is one without anything below it.
func (g *grower) leaf() api.Node {
	switch g.Intn(6) {
	case 0:
		return empty()
	case 1:
		return assert(1 << g.Intn(6))
	case 2:
		return class('a', 'b')
	}
	return runeOf([]int{'a', 'b', '-', 10}[g.Intn(4)])
}

// tree is one of at most so many nodes one below another.
func (g *grower) tree(deep int) api.Node {
	if deep == 1 {
		return g.leaf()
	}
	switch g.Intn(8) {
	case 0:
		return g.leaf()
	case 1, 2:
		return cat(g.trees(deep - 1)...)
	case 3, 4:
		return alt(g.trees(deep - 1)...)
	case 5:
		g.groups++
		index := g.groups
		return group(index, g.tree(deep-1))
	}
	c := counts()[g.Intn(len(counts()))]
	x := g.tree(deep - 1)
	for g.full && fitsNothing(x) {
		x = runeOf([]int{'a', 'b'}[g.Intn(2)])
	}
	return repeat(c[0], c[1], g.Intn(3) == 0, x)
}

func (g *grower) trees(deep int) []api.Node {
	var l []api.Node
	for range 2 + g.Intn(2) {
		l = append(l, g.tree(deep))
	}
	return l
}

// numbered gives the groups of a tree their Indexes, from the outside and the left; count is how many there are ahead of it.
func numbered(n *api.Node, count int) int {
	if n.Kind == api.NodeGroup {
		count++
		n.Index = count
	}
	for i := range n.Subs {
		count = numbered(&n.Subs[i], count)
	}
	return count
}

// right is a tree whose groups are in order.
func (g *grower) right(deep int) api.Node {
	tree := g.tree(deep)
	numbered(&tree, 0)
	return tree
}

// text is one of at most so many runes.
func (g *grower) text(most int) []int {
	var l []int
	for range g.Intn(most + 1) {
		l = append(l, []int{'a', 'b', 'a', 'b', '-', 10}[g.Intn(6)])
	}
	return l
}

// fitsNothing tells whether a tree might fit without a rune.
func fitsNothing(n api.Node) bool {
	switch n.Kind {
	case api.NodeClass:
		return false
	case api.NodeCat:
		return !slices.ContainsFunc(n.Subs, func(s api.Node) bool { return !fitsNothing(s) })
	case api.NodeAlt:
		return slices.ContainsFunc(n.Subs, fitsNothing)
	case api.NodeGroup:
		return fitsNothing(n.Subs[0])
	case api.NodeRepeat:
		return n.Min == 0 || fitsNothing(n.Subs[0])
	}
	return true
}

// TestMadeTrees: P6.1, P6.3, P6.5: greater trees, made by chance, over longer texts.
func TestMadeTrees(t *testing.T) {
	g := &grower{Rand: rand.New(rand.NewSource(6))}
	c := &tally{}
	for range 40000 {
		tree := g.right(2 + g.Intn(4))
		if modelSize(tree) > api.MaxSmall {
			continue
		}
		text := g.text(6)
		c.wantModel(t, tree, text, g.Intn(len(text)+1))
	}
	if c.held < 5*c.left || c.held < 20000 {
		t.Errorf("%d were held against the model, %d were not", c.held, c.left)
	}
}

// TestWhichWay: P6.4: neither what is lazy nor the order of alternatives changes the Ends, and groups change nothing but the Caps of them.
func TestWhichWay(t *testing.T) {
	g := &grower{Rand: rand.New(rand.NewSource(64))}
	other, fewer := 0, 0
	for range 20000 {
		tree := g.right(2 + g.Intn(4))
		text := g.text(8)
		at := g.Intn(len(text) + 1)
		if modelSize(tree) > api.MaxSmall {
			continue
		}
		got := parsesOf(t, tree, text, at)
		turned := parsesOf(t, changed(tree, func(n api.Node) api.Node { return g.turned(n) }), text, at)
		if !slices.Equal(sorted(endsOf(turned)), sorted(endsOf(got))) {
			t.Errorf("%s over %v from %d: Ends %v, with other choices %v", shown(tree), text, at, endsOf(got), endsOf(turned))
		}
		bare := parsesOf(t, changed(tree, ungrouped), text, at)
		for i := range got {
			got[i].Caps = got[i].Caps[:2]
		}
		if !sameParses(bare, got) {
			t.Errorf("%s over %v from %d: %v, without groups %v", shown(tree), text, at, got, bare)
		}
		if !slices.Equal(endsOf(turned), endsOf(got)) {
			other++
		}
		if modelGreatest(tree) > 0 {
			fewer++
		}
	}
	if other < 1000 || fewer < 1000 {
		t.Errorf("%d had another order, %d had groups: too few", other, fewer)
	}
}

// turned is a node that may be lazy where it was not, or have its alternatives in another order.
func (g *grower) turned(n api.Node) api.Node {
	if n.Kind == api.NodeRepeat {
		n.Lazy = g.Intn(2) == 0
	}
	if n.Kind == api.NodeAlt {
		g.Shuffle(len(n.Subs), func(i, j int) { n.Subs[i], n.Subs[j] = n.Subs[j], n.Subs[i] })
	}
	return n
}

// ungrouped is a node, or what stands in it, if that is a group.
func ungrouped(n api.Node) api.Node {
	if n.Kind == api.NodeGroup {
		return n.Subs[0]
	}
	return n
}

// TestCopies: P6.6: the unfolded form, written as a tree, has the same parses.
func TestCopies(t *testing.T) {
	g := &grower{Rand: rand.New(rand.NewSource(66))}
	for range 20000 {
		tree := g.right(2 + g.Intn(4))
		if modelSize(tree) > 1000 {
			continue
		}
		text := g.text(8)
		wantCopies(t, tree, text, g.Intn(len(text)+1))
	}
	for _, tree := range smallTrees(3) {
		wantCopies(t, tree, runesOf("aaa"), 0)
	}
}

// wantCopies fails, if a tree has other parses than its unfolded form, but for groups that this has lost.
func wantCopies(t *testing.T, tree api.Node, text []int, at int) {
	t.Helper()
	form := written(unfolded(tree))
	got, other := parsesOf(t, tree, text, at), parsesOf(t, form, text, at)
	for i := range other {
		for len(other[i].Caps) < 2*modelGreatest(tree)+2 {
			other[i].Caps = append(other[i].Caps, -1)
		}
	}
	if !sameParses(got, other) {
		t.Errorf("%s over %v from %d: %v; of %s: %v", shown(tree), text, at, got, shown(form), other)
	}
}

// TestFirstParse: where no loop is of what fits without a rune, the first parse is what others find, too.
func TestFirstParse(t *testing.T) {
	g := &grower{Rand: rand.New(rand.NewSource(60)), full: true}
	found := 0
	for range 4000 {
		tree := g.right(2 + g.Intn(4))
		pattern, errno := printer.Print(tree)
		if errno != api.OK || modelSize(tree) > api.MaxSmall {
			continue
		}
		text := g.text(8)
		at := g.Intn(len(text) + 1)
		got := parsesOf(t, tree, text, at)
		// The runes of these texts are bytes.
		other := regexp.MustCompile(`(?m)\A(?s:.{` + strconv.Itoa(at) + `})(` + pattern + `)`)
		want := other.FindStringSubmatchIndex(stringOf(text))
		if want == nil && len(got) == 0 {
			continue
		}
		found++
		if len(got) == 0 || want == nil || !slices.Equal(got[0].Caps, want[2:]) {
			t.Errorf("%s over %v from %d: %v; others find %v", shown(tree), text, at, got, want)
		}
	}
	if found < 1000 {
		t.Errorf("%d were found: too few", found)
	}
}

// stringOf is a text as a string.
func stringOf(text []int) string {
	var l []rune
	for _, r := range text {
		l = append(l, rune(r))
	}
	return string(l)
}

// FuzzParses holds ever more patterns and texts against the model.
func FuzzParses(f *testing.F) {
	for _, c := range examples() {
		f.Add(c.pattern, c.text, c.at)
	}
	f.Fuzz(func(t *testing.T, pattern, s string, at int) {
		wantFuzzed(t, pattern, s, at)
	})
}
