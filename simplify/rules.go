package simplify

import "heron/api"

// formOf is the simple form of a sound tree.
func formOf(t api.Node) *form {
	switch t.Kind {
	case api.NodeCat:
		return join(onceEach(t.Subs)...)
	case api.NodeAlt:
		return row(api.NodeAlt, onceEach(t.Subs))
	case api.NodeRepeat:
		return repeat(t)
	case api.NodeGroup:
		return over(api.Node{Kind: api.NodeGroup, Index: t.Index, Name: t.Name}, formOf(t.Subs[0]))
	}
	return leaf(t)
}

// onceEach are the simple forms of trees, in order.
func onceEach(trees []api.Node) []run {
	var runs []run
	for _, t := range trees {
		runs = append(runs, run{formOf(t), 1})
	}
	return runs
}

// repeat is the simple form of a NodeRepeat.
func repeat(t api.Node) *form {
	y := formOf(t.Subs[0])
	if t.Max != -1 {
		return join(run{y, t.Min}, run{opt(y, t.Max-t.Min, t.Lazy), 1})
	}
	if t.Min == 0 {
		return over(loop(0, -1, t.Lazy), y)
	}
	return join(run{y, t.Min - 1}, run{over(loop(1, -1, t.Lazy), y), 1})
}

// opt is the chapter's OPT(count) of a form.
func opt(y *form, count int, lazy bool) *form {
	if count == 0 {
		return empty()
	}
	quest := loop(0, 1, lazy)
	one := over(quest, y)
	if count == 1 {
		return one
	}
	two := over(quest, join(run{y, 1}, run{one, 1}))
	return &form{
		top: quest,
		// From the second one on, each adds as much as the second one does.
		nodes: atMost(one.nodes + (count-1)*(two.nodes-one.nodes)),
		depth: one.depth + (count-1)*(two.depth-one.depth),
		// The inner ones are made when they are gone through: of a tree that is refused, or that only its size is asked of, they never are.
		each: func(do func(*form)) { do(join(run{y, 1}, run{opt(y, count-1, lazy), 1})) },
	}
}

// loop is a NodeRepeat without its Sub.
func loop(least, most int, lazy bool) api.Node {
	return api.Node{Kind: api.NodeRepeat, Min: least, Max: most, Lazy: lazy}
}
