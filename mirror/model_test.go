package mirror_test

import (
	"slices"
	"testing"

	"heron/api"
)

// The chapter's table, row by row, and a text's runes put ahead of one another.

// model is the mirror of a tree.
func model(n api.Node) api.Node {
	switch n.Kind {
	case api.NodeEmpty:
		return empty()
	case api.NodeClass:
		return api.Node{Kind: api.NodeClass, Ranges: slices.Clone(n.Ranges)}
	case api.NodeAssert:
		return assert(modelFlip(n.Assert))
	case api.NodeCat:
		var subs []api.Node
		for _, sub := range n.Subs {
			subs = append([]api.Node{model(sub)}, subs...)
		}
		return cat(subs...)
	case api.NodeAlt:
		var subs []api.Node
		for _, sub := range n.Subs {
			subs = append(subs, model(sub))
		}
		return alt(subs...)
	case api.NodeRepeat:
		return repeat(n.Min, n.Max, n.Lazy, model(n.Subs[0]))
	}
	return model(n.Subs[0])
}

func modelFlip(which int) int {
	switch which {
	case api.BeginText:
		return api.EndText
	case api.EndText:
		return api.BeginText
	case api.BeginLine:
		return api.EndLine
	case api.EndLine:
		return api.BeginLine
	}
	return which
}

func modelBack(text []int) []int {
	var l []int
	for _, r := range text {
		l = append([]int{r}, l...)
	}
	return l
}

// TestModel: the model says of the chapter's examples what the chapter says.
func TestModel(t *testing.T) {
	for _, x := range examples() {
		if m := model(treeOf(t, x.pattern)); !same(m, x.want) {
			t.Errorf("%q: the model has %s; want %s", x.pattern, shown(m), shown(x.want))
		}
	}
	if l := modelBack([]int{1, 2, 3}); !slices.Equal(l, []int{3, 2, 1}) {
		t.Errorf("the model has %v", l)
	}
}
