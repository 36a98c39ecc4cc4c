package prog_test

import (
	"math/rand"
	"slices"
	"testing"

	"heron/api"
	"heron/meaning"
	"heron/prog"
	"heron/simplify"
	"heron/syntax"
)

// wantModel fails, if a tree's program is not the model's, or is not what P9.5 says of it.
func wantModel(t *testing.T, tree api.Node) {
	t.Helper()
	want, ok := model(tree)
	if !ok {
		wantCompile(t, shownTree(tree), tree, api.ErrBig)
		return
	}
	wantProgram(t, tree, want)
	p, errno := prog.Compile(tree)
	if errno != api.OK {
		return
	}
	if size := simplify.Size(tree); prog.Check(p) != api.OK || len(p.Insts) > 3*size+3 {
		t.Errorf("%s: %s may not be, or has too many instructions for %d nodes", shownTree(tree), shown(p), size)
	}
}

// wantFinds fails, if a tree's program does not find the tree's first parse from each place of a text; else it tells from how many it finds any (-1: the parses are not told).
func wantFinds(t *testing.T, tree api.Node, text []int) int {
	t.Helper()
	p, finds := compiled(t, tree), 0
	for at := range len(text) + 1 {
		parses, errno := meaning.Parses(tree, text, at)
		if errno != api.OK {
			return -1
		}
		ok, arg, caps := find(p, text, at)
		if ok != (len(parses) > 0) || arg != 0 || ok && !slices.Equal(caps, parses[0].Caps) {
			t.Errorf("%s over %v from %d: %v, %d, %v; want the first of %v", shownTree(tree), text, at, ok, arg, caps, parses)
		}
		if ok {
			finds++
		}
	}
	return finds
}

// wantSideBySide fails, if the Join of programs does not find from each place of a text what the first of them finds that finds anything; else it tells from how many it finds any.
func wantSideBySide(t *testing.T, l []api.Program, text []int) int {
	t.Helper()
	p, finds := joined(t, l...), 0
	for at := range len(text) + 1 {
		ok, arg, caps := find(p, text, at)
		wantOk, wantArg, wantCaps := firstOf(l, p.Caps, text, at)
		if ok != wantOk || arg != wantArg || !slices.Equal(caps, wantCaps) {
			t.Errorf("%s over %v from %d: %v, %d, %v; want %v, %d, %v", shown(p), text, at, ok, arg, caps, wantOk, wantArg, wantCaps)
		}
		if ok {
			finds++
		}
	}
	return finds
}

// firstOf is what the first of some programs finds that finds anything, with its number, and with so many captures.
func firstOf(l []api.Program, count int, text []int, at int) (bool, int, []int) {
	for which, p := range l {
		if ok, _, caps := find(p, text, at); ok {
			return true, which, append(caps, many(count-len(caps), -1)...)
		}
	}
	return false, 0, nil
}

// counts are those of every row of chapter 7.
func counts() [][2]int {
	return [][2]int{{0, -1}, {1, -1}, {2, -1}, {0, 0}, {0, 1}, {1, 1}, {0, 2}, {1, 2}, {2, 2}, {1, 3}}
}

// smallTrees are all trees of so many nodes of a few leaves and those counts; a group's Index is 1 or 2, by how high it stands.
func smallTrees(nodes int) []api.Node {
	if nodes == 1 {
		return []api.Node{empty(), runeOf('a'), runeOf('b'), class(), assert(api.WordEdge)}
	}
	var l []api.Node
	for _, sub := range smallTrees(nodes - 1) {
		l = append(l, group(1+nodes%2, sub))
		for i, c := range counts() {
			l = append(l, repeat(c[0], c[1], i%3 == nodes%3, sub))
		}
	}
	for left := 1; left < nodes-1; left++ {
		for _, a := range smallTrees(left) {
			for _, b := range smallTrees(nodes - 1 - left) {
				l = append(l, cat(a, b), alt(a, b))
			}
		}
	}
	return l
}

// TestSmallTrees: P9.1, P9.5, P9.6: every small tree; what its program finds in short texts.
func TestSmallTrees(t *testing.T) {
	finds, texts := 0, [][]int{nil, runesOf("a"), runesOf("ab"), runesOf("ab-a")}
	for nodes := 1; nodes <= 5; nodes++ {
		for i, tree := range smallTrees(nodes) {
			if nodes == 5 && i%19 != 0 {
				continue
			}
			wantModel(t, tree)
			for _, text := range texts {
				finds += max(0, wantFinds(t, tree, text))
			}
		}
	}
	if finds < 50000 {
		t.Errorf("%d were found: too few", finds)
	}
}

// TestLoopsOfEmpty: P9.1, P9.6: loops whose Sub can be empty, within loops, with groups and ways between.
func TestLoopsOfEmpty(t *testing.T) {
	inner := []api.Node{
		empty(), quest(runeOf('a')), star(runeOf('a')), repeat(0, -1, true, runeOf('a')), repeat(0, 1, true, runeOf('b')),
		alt(empty(), runeOf('a')), alt(runeOf('a'), empty()), alt(assert(api.WordEdge), runeOf('b')), cat(quest(runeOf('a')), repeat(0, 1, true, runeOf('b'))),
		cat(group(3, quest(runeOf('a'))), group(4, repeat(0, 1, true, runeOf('b')))), repeat(2, 3, false, alt(empty(), runeOf('a'), runeOf('b'))),
	}
	loops := [][2]int{{0, -1}, {1, -1}, {0, 1}, {2, -1}, {0, 2}, {2, 2}}
	texts := [][]int{nil, runesOf("a"), runesOf("ba"), runesOf("aab")}
	finds := 0
	for _, sub := range inner {
		for i := range len(loops) * len(loops) * 4 {
			within, around := loops[i/4%len(loops)], loops[i/4/len(loops)]
			tree := repeat(around[0], around[1], i&1 == 1, group(1, repeat(within[0], within[1], i&2 == 2, group(2, sub))))
			wantModel(t, tree)
			for _, text := range texts {
				finds += max(0, wantFinds(t, tree, text))
			}
			wantFinds(t, cat(tree, runeOf('b'), assert(api.EndText)), runesOf("aab"))
		}
	}
	if finds < 10000 {
		t.Errorf("%d were found: too few", finds)
	}
}

// grower makes trees, texts and programs by chance.
type grower struct {
	*rand.Rand
	groups int
}

// leaf is one without anything below it.
func (g *grower) leaf() api.Node {
	switch g.Intn(9) {
	case 0:
		return empty()
	case 1:
		return assert(1 << g.Intn(6))
	case 2:
		return class('a', 'b', 'x', 'z')
	case 3:
		if g.Intn(4) == 0 {
			return class()
		}
	}
	return runeOf([]int{'a', 'b', 'a', 'b', '-', 10}[g.Intn(6)])
}

// tree is one of at most so many nodes one below another.
func (g *grower) tree(deep int) api.Node {
	if deep == 1 {
		return g.leaf()
	}
	switch g.Intn(10) {
	case 0:
		return g.leaf()
	case 1, 2, 3:
		return cat(g.trees(deep - 1)...)
	case 4, 5:
		return alt(g.trees(deep - 1)...)
	case 6, 7:
		g.groups = g.groups%api.MaxGroups + 1
		return named(g.groups, []string{"", "x", "y_1"}[g.Intn(3)], g.tree(deep-1))
	}
	c := counts()[g.Intn(len(counts()))]
	return repeat(c[0], c[1], g.Intn(3) == 0, g.tree(deep-1))
}

func (g *grower) trees(deep int) []api.Node {
	var l []api.Node
	for range 2 + g.Intn(3) {
		l = append(l, g.tree(deep))
	}
	return l
}

// text is one of at most so many runes.
func (g *grower) text(most int) []int {
	var l []int
	for range g.Intn(most + 1) {
		l = append(l, []int{'a', 'b', 'a', 'b', '-', 10}[g.Intn(6)])
	}
	return l
}

// program is one that may be, of at most so many instructions.
func (g *grower) program(most int) api.Program {
	count := 1 + g.Intn(most)
	p := api.Program{Start: g.Intn(count), Caps: 2 + 2*g.Intn(3)}
	for range count {
		x, y := g.Intn(count), g.Intn(count)
		i := []api.Inst{
			ifRune(x, rangesOf('a', 'a')...), ifRune(x, rangesOf('a', 'b', 'x', 'z')...), ifRune(x, rangesOf('b', 'b')...), either(x, y), either(x, y), either(x, y),
			note(g.Intn(p.Caps), x), note(g.Intn(p.Caps), x), ifHolds(1<<g.Intn(6), x), match(g.Intn(api.MaxSet)), fail(), goOn(x),
		}[g.Intn(12)]
		p.Insts = append(p.Insts, i)
	}
	return p
}

// spoiled is a program in which a number or two have changed, perhaps to what they were.
func (g *grower) spoiled(p api.Program) api.Program {
	p = copied(p)
	for range 1 + g.Intn(2) {
		n := []int{-1, 0, 1, 2, 3, 4, 5, 6, 7, 8, 16, 99, 100, len(p.Insts) - 1, len(p.Insts), p.Caps, p.Caps - 1, 1002, 1004}[g.Intn(19)]
		i := &p.Insts[g.Intn(len(p.Insts))]
		switch g.Intn(7) {
		case 0:
			i.Op = n
		case 1:
			i.X = n
		case 2:
			i.Y = n
		case 3:
			i.Arg = n
		case 4:
			i.Ranges = [][]api.Range{nil, rangesOf('a', 'b'), rangesOf('a', 'b', 'c', 'd'), rangesOf(0, n), rangesOf(n, 'b')}[g.Intn(5)]
		case 5:
			p.Start = n
		case 6:
			p.Caps = n
		}
	}
	return p
}

// TestMadeTrees: P9.1, P9.5, P9.6: greater trees, and texts, made by chance.
func TestMadeTrees(t *testing.T) {
	g := &grower{Rand: rand.New(rand.NewSource(9))}
	told, fits := 0, 0
	for range 15000 {
		g.groups = 0
		tree, text := g.tree(2+g.Intn(5)), g.text(8)
		wantModel(t, tree)
		switch finds := wantFinds(t, tree, text); {
		case finds > 0:
			fits++
			told++
		case finds == 0:
			told++
		}
	}
	if told < 12000 || fits < 6000 {
		t.Errorf("the parses of %d were told, %d fit any: too few", told, fits)
	}
}

// TestMadeSets: P9.3, P9.5, P9.7: programs of trees side by side, and programs that are no tree's.
func TestMadeSets(t *testing.T) {
	g := &grower{Rand: rand.New(rand.NewSource(97))}
	finds := 0
	for n := range 8000 {
		var l []api.Program
		for range 1 + g.Intn(5) {
			if n%2 == 0 {
				l = append(l, g.program(12))
				continue
			}
			g.groups = 0
			l = append(l, compiled(t, g.tree(1+g.Intn(4))))
		}
		want, errno := modelJoin(l)
		if errno != api.OK {
			t.Fatalf("the model refuses: %d", errno)
		}
		wantJoined(t, l, want)
		wantCheck(t, "a Join", joined(t, l...), api.OK)
		finds += wantSideBySide(t, l, g.text(5))
	}
	if finds < 6000 {
		t.Errorf("%d were found: too few", finds)
	}
}

// TestMadeWrong: P9.2, P9.3: programs that may be, and such in which something has changed.
func TestMadeWrong(t *testing.T) {
	g := &grower{Rand: rand.New(rand.NewSource(92))}
	wrong := 0
	for range 50000 {
		p := g.program(9)
		wantCheck(t, "as made", p, api.OK)
		q := g.spoiled(p)
		want := api.OK
		if !modelCheck(q) {
			want = api.ErrProg
			wrong++
		}
		wantCheck(t, "spoiled", q, want)
		wantJoin(t, "one spoiled", []api.Program{p, q}, want)
	}
	if wrong < 20000 || wrong > 49000 {
		t.Errorf("%d were wrong: too few, or too many", wrong)
	}
}

// FuzzCompile holds ever more patterns against the model, and what their programs find against their parses.
func FuzzCompile(f *testing.F) {
	for _, x := range examples() {
		f.Add(x.pattern, "aab-a")
	}
	f.Add(`(?:(a{0,3}|b)^{2,}?|(?:\bab$)){3}`, "ab\nba")
	f.Add(`(?:(a??)(b??))+c|(|a)+|[^\x{0}-\x{10FFFF}]`, "abc")
	f.Fuzz(func(t *testing.T, pattern, s string) {
		tree, err := syntax.Parse(pattern)
		if err != nil || simplify.Size(tree) > 3000 {
			return
		}
		wantModel(t, tree)
		if text := runesOf(s); len(text) <= 20 {
			wantFinds(t, tree, text)
			whole := compiled(t, tree)
			wantSideBySide(t, []api.Program{ofPattern(t, `b`), whole, ofPattern(t, `(a)`), whole}, text)
		}
	})
}

// FuzzCheck holds ever more programs, made of bytes, against the model.
func FuzzCheck(f *testing.F) {
	f.Add([]byte{0, 2, 1, 1, 0, 0, 1, 2, 1, 0, 0, 0, 5, 0, 0, 3, 0})
	f.Add([]byte{1, 4, 3, 1, 0, 3, 0, 5, 0, 0, 99, 0, 6, 0, 0, 0, 0})
	f.Fuzz(func(t *testing.T, b []byte) {
		if len(b) < 2 || len(b) > 200 {
			return
		}
		p := api.Program{Start: int(int8(b[0])), Caps: int(int8(b[1]))}
		for b = b[2:]; len(b) >= 5; b = b[5:] {
			i := api.Inst{Op: int(int8(b[0])), X: int(int8(b[1])), Y: int(int8(b[2])), Arg: int(int8(b[3]))}
			for n := range b[4] % 3 {
				i.Ranges = append(i.Ranges, api.Range{Lo: int(b[4]) + 2*int(n), Hi: int(b[4]>>1) * int(n+1)})
			}
			p.Insts = append(p.Insts, i)
		}
		want := api.OK
		if !modelCheck(p) {
			want = api.ErrProg
		}
		wantCheck(t, "of bytes", p, want)
		wantJoin(t, "of bytes", []api.Program{p, p}, want)
		if want == api.OK {
			join, _ := modelJoin([]api.Program{p, ofLength(3), p})
			wantJoined(t, []api.Program{p, ofLength(3), p}, join)
			wantSideBySide(t, []api.Program{p, ofLength(3), p}, runesOf("ab"))
		}
	})
}
