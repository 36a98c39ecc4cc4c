package printer_test

import (
	"math"
	"slices"
	"strconv"
	"strings"
	"testing"

	"heron/api"
	"heron/printer"
	"heron/syntax"
)

// wantModel fails, if one of the three answers otherwise than the model.
func wantModel(t *testing.T, tree api.Node) {
	t.Helper()
	sound, right, print, text := api.ErrTree, api.ErrTree, api.ErrTree, ""
	if modelSound(tree) {
		sound = api.OK
	}
	if modelRight(tree) {
		right, print = api.OK, api.OK
		text, _ = modelPattern(tree)
	}
	if len(text) > 65536 {
		print, text = api.ErrBig, ""
	}
	if e := printer.Sound(tree); e != sound {
		t.Errorf("%s: Sound is %d, want %d", shown(tree), e, sound)
	}
	if e := printer.Right(tree); e != right {
		t.Errorf("%s: Right is %d, want %d", shown(tree), e, right)
	}
	if got, e := printer.Print(tree); e != print || got != text {
		t.Errorf("%s: Print is %q, %d, want %q, %d", shown(tree), shown(got), e, shown(text), print)
	}
	if print == api.OK {
		wantPrint(t, tree, text)
	}
}

// treesOf are all trees of so many nodes, of a few leaves, counts and groups.
func treesOf(nodes int) []api.Node {
	if nodes == 1 {
		return []api.Node{empty(), runeOf('a'), class('^', '^', 'b', 'b'), assert(api.EndLine)}
	}
	var out []api.Node
	for _, sub := range treesOf(nodes - 1) {
		out = append(out, star(sub), repeat(2, 2, true, sub), group(1, "", sub))
	}
	for _, subs := range rowsOf(nodes - 1) {
		if len(subs) > 1 {
			out = append(out, cat(subs...), alt(subs...))
		}
	}
	return out
}

// rowsOf are all rows of trees that have so many nodes together.
func rowsOf(nodes int) [][]api.Node {
	if nodes == 0 {
		return [][]api.Node{nil}
	}
	var out [][]api.Node
	for first := 1; first <= nodes; first++ {
		for _, head := range treesOf(first) {
			for _, tail := range rowsOf(nodes - first) {
				out = append(out, append([]api.Node{head}, tail...))
			}
		}
	}
	return out
}

// P5.2, P5.4, P5.5: all small trees.
func TestSmallTrees(t *testing.T) {
	seen := map[string]api.Node{}
	for nodes := 1; nodes <= 6; nodes++ {
		for _, made := range treesOf(nodes) {
			tree := copied(made)
			numbered(&tree, 0)
			wantModel(t, tree)
			text, e := printer.Print(tree)
			if e != api.OK {
				t.Fatalf("%s: %d", shown(tree), e)
			}
			if other, stands := seen[text]; stands {
				t.Errorf("%q is the pattern of %s and of %s", text, shown(other), shown(tree))
			}
			seen[text] = tree
		}
	}
	if len(seen) < 30000 {
		t.Error("only", len(seen), "trees")
	}
}

// grower makes trees by a short rule.
type grower struct {
	seed  uint32
	names int
}

func (g *grower) pick(n int) int {
	g.seed = g.seed*1664525 + 1013904223
	return int(g.seed>>9) % n
}

func (g *grower) tree(deep int) api.Node {
	kind := g.pick(7) + 1
	if deep == 0 {
		kind = g.pick(3) + 1
	}
	switch kind {
	case api.NodeEmpty:
		return empty()
	case api.NodeClass:
		return g.class()
	case api.NodeAssert:
		return assert(1 << g.pick(6))
	case api.NodeRepeat:
		least := []int{0, 0, 1, 2, 9, 10, 999, 1000}[g.pick(8)]
		most := []int{-1, -1, least, min(1000, least+1), 1000}[g.pick(5)]
		return repeat(least, most, g.pick(2) == 0, g.tree(deep-1))
	case api.NodeGroup:
		return group(1, g.name(), g.tree(deep-1))
	}
	subs := []api.Node{g.tree(deep - 1), g.tree(deep - 1)}
	for g.pick(3) == 0 {
		subs = append(subs, g.tree(deep-1))
	}
	return api.Node{Kind: kind, Subs: subs}
}

func (g *grower) name() string {
	if g.pick(2) == 0 {
		return ""
	}
	g.names++
	return []string{"a", "_", "Z9", "n_m"}[g.pick(4)] + strconv.Itoa(g.names)
}

// class is one of some ranges, often of bytes that mean something.
func (g *grower) class() api.Node {
	n := class()
	next := 0
	for range g.pick(6) {
		lo := next + []int{0, 2, 33, 60, 0xD700, 0x10000}[g.pick(6)]
		if next == 0 {
			lo = []int{0, 32, 33, '(', '*', '-', '.', '?', '[', '\\', ']', '^', '{', '|', '}', 126, 127, 128, 0xD7FF, 0xE000, 0xFFFF, 0x10FFFF}[g.pick(22)]
		}
		hi := lo + []int{0, 0, 1, 2, 3, 500}[g.pick(6)]
		if lo <= 0xDFFF && hi >= 0xD800 {
			hi = max(lo, 0xD7FF)
		}
		if lo > 0x10FFFF || 0xD800 <= lo && lo <= 0xDFFF {
			break
		}
		hi = min(hi, 0x10FFFF)
		n.Ranges = append(n.Ranges, api.Range{Lo: lo, Hi: hi})
		next = hi + 2
	}
	return n
}

// P5.1, P5.2, P5.4: trees that are made are right, and their patterns theirs.
func TestMadeTrees(t *testing.T) {
	for i := range 20000 {
		g := &grower{seed: uint32(i)}
		tree := g.tree(1 + i%7)
		if modelNodes(tree) > 3000 {
			continue
		}
		if count := numbered(&tree, 0); count <= api.MaxGroups && !modelRight(tree) {
			t.Fatalf("%s is not right by the model", shown(tree))
		}
		wantModel(t, tree)
	}
}

// nodesOf are all nodes of a tree.
func nodesOf(n *api.Node) []*api.Node {
	out := []*api.Node{n}
	for i := range n.Subs {
		out = append(out, nodesOf(&n.Subs[i])...)
	}
	return out
}

// spoil changes one field of a node to what may be wrong there.
func (g *grower) spoil(n *api.Node) {
	number := []int{-1 << 62, math.MinInt, -2, -1, 0, 1, 2, 3, 7, 8, 9, 64, 500, 501, 1000, 1001, 1 << 32, math.MaxInt}[g.pick(18)]
	switch g.pick(11) {
	case 0:
		n.Kind = number
	case 1:
		n.Kind = g.pick(9)
	case 2:
		n.Ranges = g.ranges(n.Ranges)
	case 3:
		n.Assert = number
	case 4:
		n.Min = number
	case 5:
		n.Max = number
	case 6:
		n.Lazy = !n.Lazy
	case 7:
		n.Index = number
	case 8:
		n.Name = []string{"", "a", "a1", "_1", "1", "a b", "\xC3\xA9", strings.Repeat("x", 32), strings.Repeat("x", 33)}[g.pick(9)]
	case 9:
		n.Subs = n.Subs[:g.pick(len(n.Subs)+1)]
	case 10:
		n.Subs = append(n.Subs, []api.Node{{}, empty(), group(1, "", empty())}[g.pick(3)])
	}
}

// ranges are others than those, mostly of no class.
func (g *grower) ranges(l []api.Range) []api.Range {
	wrong := [][]api.Range{
		nil, {}, {{Lo: 5, Hi: 3}}, {{Lo: -1, Hi: 3}}, {{Lo: 0, Hi: 0x110000}}, {{Lo: 0xD7FF, Hi: 0xE000}}, {{Lo: 0xD800, Hi: 0xD800}},
		{{Lo: 1, Hi: 2}, {Lo: 3, Hi: 4}}, {{Lo: 1, Hi: 2}, {Lo: 1, Hi: 2}}, {{Lo: 8, Hi: 9}, {Lo: 1, Hi: 2}},
		{{Lo: 0, Hi: 0xD7FF}, {Lo: 0xE000, Hi: 0x10FFFF}}, {{Lo: math.MinInt, Hi: math.MaxInt}}, {{Lo: math.MaxInt, Hi: math.MaxInt}},
	}
	if k := g.pick(len(wrong) + 2); k < len(wrong) {
		return wrong[k]
	}
	return append(slices.Clone(l), l...)
}

// P5.1, P5.2: trees of which something was changed.
func TestSpoiledTrees(t *testing.T) {
	refused := 0
	for i := range 60000 {
		g := &grower{seed: uint32(i) * 7}
		tree := g.tree(1 + i%5)
		numbered(&tree, 0)
		nodes := nodesOf(&tree)
		if len(nodes) > 500 {
			continue
		}
		for range 1 + g.pick(2) {
			g.spoil(nodes[g.pick(len(nodes))])
		}
		wantModel(t, tree)
		if !modelRight(tree) {
			refused++
		}
	}
	if refused < 20000 {
		t.Error("only", refused, "trees are wrong")
	}
}

// wantThereAndBack fails, if what a pattern is read as is not right, or is not printed as a pattern of it.
func wantThereAndBack(t *testing.T, p string) {
	t.Helper()
	tree, err := syntax.Parse(p)
	if err != nil {
		return
	}
	if printer.Sound(tree) != api.OK || printer.Right(tree) != api.OK {
		t.Errorf("%q: its tree is not right: %s", shown(p), shown(tree))
		return
	}
	printed, e := printer.Print(tree)
	if e == api.ErrBig {
		if text, _ := modelPattern(tree); len(text) <= api.MaxPattern {
			t.Errorf("%q: its tree has a pattern of %d bytes", shown(p), len(text))
		}
		return
	}
	back, err := syntax.Parse(printed)
	if e != api.OK || err != nil || !same(back, tree) {
		t.Errorf("%q: printed as %q, %d, read as %s, %v", shown(p), shown(printed), e, shown(back), err)
	}
	if again, e := printer.Print(back); again != printed || e != api.OK {
		t.Errorf("%q: printed as %q, then as %q, %d", shown(p), shown(printed), shown(again), e)
	}
}

// P4.4, P5.4: all short patterns of some pieces.
func TestShortPatterns(t *testing.T) {
	pieces := []string{"a", "|", "*", "?", "+", "(", ")", "(?:", "(?i:", "(?P<x>", "[", "^", "-", "]", "{2}", "{0,1}", "{1,}", ".", "$", `\w`, `\D`, `\b`, `\-`, `\x{41}`, " "}
	taken := 0
	var rows func(p string, left int)
	rows = func(p string, left int) {
		if _, err := syntax.Parse(p); err == nil {
			taken++
			wantThereAndBack(t, p)
		}
		if left == 0 {
			return
		}
		for _, piece := range pieces {
			rows(p+piece, left-1)
		}
	}
	rows("", 4)
	if taken < 50000 {
		t.Error("only", taken, "patterns are taken")
	}
}

// P4.4, P5.4: patterns at the limits.
func TestPatternsAtTheLimits(t *testing.T) {
	for _, p := range []string{
		strings.Repeat("(", 200) + strings.Repeat(")", 200),
		strings.Repeat("(?:", 200) + strings.Repeat(")", 200),
		strings.Repeat("(?:", 200) + "a" + strings.Repeat(")*", 200),
		strings.Repeat("(?:", 200) + "a" + strings.Repeat("){2,3}?", 200),
		strings.Repeat("(?:a|", 200) + strings.Repeat(")", 200),
		strings.Repeat("(?:ab|", 200) + strings.Repeat(")c", 200),
		strings.Repeat("(a|(?:", 100) + strings.Repeat(")*)", 100),
		strings.Repeat("(a)", 500),
		strings.Repeat("(", 100) + strings.Repeat(")", 100) + strings.Repeat("(?:())", 400),
		strings.Repeat("(?:a|b)", 9362),
		strings.Repeat("(?:)", 16384),
		strings.Repeat("|", 65536),
		strings.Repeat("a", 65536),
		strings.Repeat("()|", 500) + strings.Repeat("[^a]", 1000),
		strings.Repeat("a*", 32768),
		strings.Repeat(`\w`, 32768),
		strings.Repeat(".", 65536),
		strings.Repeat("(?:a)", 13107),
		strings.Repeat("a{1000}", 9362),
		"(?P<" + strings.Repeat("n", 32) + ">x)",
	} {
		if _, err := syntax.Parse(p); err != nil {
			t.Errorf("%q: %v", shown(p), err)
		}
		wantThereAndBack(t, p)
	}
}

// FuzzThereAndBack holds what is printed of any pattern against the pattern.
func FuzzThereAndBack(f *testing.F) {
	for _, p := range []string{"", "a|b*", "(?P<x>[^a-c]{2,5}?)", `(?i:k\b)`, "(?:(?:a*)*|)(?s:.)", `[\x{10FFFF}\-\]]`} {
		f.Add(p)
	}
	f.Fuzz(wantThereAndBack)
}

// FuzzTree holds trees that are made and spoiled against the model.
func FuzzTree(f *testing.F) {
	f.Add(uint32(1), 3, 1)
	f.Fuzz(func(t *testing.T, seed uint32, deep, wrong int) {
		g := &grower{seed: seed}
		tree := g.tree(deep & 3)
		numbered(&tree, 0)
		nodes := nodesOf(&tree)
		for range wrong & 3 {
			g.spoil(nodes[g.pick(len(nodes))])
		}
		wantModel(t, tree)
	})
}
