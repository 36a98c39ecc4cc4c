package simplify_test

import (
	"math/big"
	"testing"

	"heron/api"
)

// The chapter's words, one by one: each y is made anew, and each JOIN makes its list. Counts within one another take it long.

// model is the simple form of a tree.
func model(n api.Node) api.Node {
	switch n.Kind {
	case api.NodeGroup:
		return named(n.Index, n.Name, model(n.Subs[0]))
	case api.NodeCat:
		return modelJoin(modelEach(n.Subs)...)
	case api.NodeAlt:
		return alt(modelDissolved(api.NodeAlt, modelEach(n.Subs))...)
	case api.NodeRepeat:
		return modelRepeat(n)
	}
	return copied(n)
}

func modelEach(trees []api.Node) []api.Node {
	var l []api.Node
	for _, n := range trees {
		l = append(l, model(n))
	}
	return l
}

// modelDissolved are trees, the Subs of one of that kind in its place.
func modelDissolved(kind int, trees []api.Node) []api.Node {
	var l []api.Node
	for _, n := range trees {
		if n.Kind == kind {
			l = append(l, n.Subs...)
		} else {
			l = append(l, n)
		}
	}
	return l
}

func modelJoin(trees ...api.Node) api.Node {
	var l []api.Node
	for _, n := range modelDissolved(api.NodeCat, trees) {
		if n.Kind != api.NodeEmpty {
			l = append(l, n)
		}
	}
	if len(l) == 0 {
		return empty()
	}
	if len(l) == 1 {
		return l[0]
	}
	return cat(l...)
}

func modelRepeat(n api.Node) api.Node {
	y := func() api.Node { return model(n.Subs[0]) }
	if n.Max == -1 && n.Min == 0 {
		return repeat(0, -1, n.Lazy, y())
	}
	if n.Max == -1 && n.Min == 1 {
		return repeat(1, -1, n.Lazy, y())
	}
	var l []api.Node
	if n.Max == -1 {
		for range n.Min - 1 {
			l = append(l, y())
		}
		return modelJoin(append(l, repeat(1, -1, n.Lazy, y()))...)
	}
	for range n.Min {
		l = append(l, y())
	}
	return modelJoin(append(l, modelOpt(n, n.Max-n.Min))...)
}

func modelOpt(n api.Node, count int) api.Node {
	switch count {
	case 0:
		return empty()
	case 1:
		return repeat(0, 1, n.Lazy, model(n.Subs[0]))
	}
	return repeat(0, 1, n.Lazy, modelJoin(model(n.Subs[0]), modelOpt(n, count-1)))
}

// measure is what the model reckons of a simple form, without building and without limits: its topmost node's kind, how many nodes it has, and how many one below another.
type measure struct {
	kind         int
	nodes, depth *big.Int
}

var one = big.NewInt(1)

// above is the measure of a node that stands above one other.
func (m measure) above(kind int) measure {
	return measure{kind, new(big.Int).Add(m.nodes, one), new(big.Int).Add(m.depth, one)}
}

// within is the measure of what is left of a tree in a row of a kind.
func (m measure) within(kind int) measure {
	if m.kind != kind {
		return m
	}
	return measure{m.kind, new(big.Int).Sub(m.nodes, one), new(big.Int).Sub(m.depth, one)}
}

func measureOf(n api.Node) measure {
	switch n.Kind {
	case api.NodeGroup:
		return measureOf(n.Subs[0]).above(api.NodeGroup)
	case api.NodeCat:
		return measureJoin(measureEach(n.Subs)...)
	case api.NodeAlt:
		return measureRow(api.NodeAlt, measureEach(n.Subs))
	case api.NodeRepeat:
		return measureRepeat(n)
	}
	return measure{n.Kind, big.NewInt(1), big.NewInt(1)}
}

func measureEach(trees []api.Node) []measure {
	var l []measure
	for _, n := range trees {
		l = append(l, measureOf(n))
	}
	return l
}

func measureRow(kind int, l []measure) measure {
	sum := measure{kind, big.NewInt(1), big.NewInt(0)}
	for _, m := range l {
		m = m.within(kind)
		sum.nodes.Add(sum.nodes, m.nodes)
		if m.depth.Cmp(sum.depth) > 0 {
			sum.depth.Set(m.depth)
		}
	}
	sum.depth.Add(sum.depth, one)
	return sum
}

func measureJoin(l ...measure) measure {
	var kept []measure
	for _, m := range l {
		if m.kind != api.NodeEmpty {
			kept = append(kept, m)
		}
	}
	if len(kept) == 0 {
		return measure{api.NodeEmpty, big.NewInt(1), big.NewInt(1)}
	}
	if len(kept) == 1 {
		return kept[0]
	}
	return measureRow(api.NodeCat, kept)
}

func measureRepeat(n api.Node) measure {
	y := measureOf(n.Subs[0])
	var l []measure
	if n.Max == -1 {
		for range n.Min - 1 {
			l = append(l, y)
		}
		return measureJoin(append(l, y.above(api.NodeRepeat))...)
	}
	for range n.Min {
		l = append(l, y)
	}
	rest := measure{api.NodeEmpty, big.NewInt(1), big.NewInt(1)}
	for range n.Max - n.Min {
		rest = measureJoin(y, rest).above(api.NodeRepeat)
	}
	return measureJoin(append(l, rest)...)
}

// size is what Size is to answer.
func (m measure) size() int {
	if m.nodes.Cmp(big.NewInt(api.MaxNodes)) > 0 {
		return api.MaxNodes + 1
	}
	return int(m.nodes.Int64())
}

// errno is what Simplify is to answer.
func (m measure) errno() api.Errno {
	if m.size() > api.MaxNodes || m.depth.Cmp(big.NewInt(api.MaxDepth)) > 0 {
		return api.ErrBig
	}
	return api.OK
}

// TestModel: the model says of the chapter's examples what the chapter says, and reckons what it builds.
func TestModel(t *testing.T) {
	for _, x := range examples() {
		tree := treeOf(t, x.pattern)
		s, m := model(tree), measureOf(tree)
		if !same(s, x.want) || m.size() != x.size {
			t.Errorf("%q: the model has %s, of size %d; want %s, %d", x.pattern, shown(s), m.size(), shown(x.want), x.size)
		}
	}
	for nodes := 1; nodes <= 4; nodes++ {
		for _, tree := range smallTrees(nodes) {
			s, m := model(tree), measureOf(tree)
			if m.kind != s.Kind || m.size() != nodesOf(s) || m.depth.Cmp(big.NewInt(int64(depthOf(s)))) != 0 {
				t.Errorf("%s: reckoned %v; built %s", shown(tree), m, shown(s))
			}
		}
	}
}
