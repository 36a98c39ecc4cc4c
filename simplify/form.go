package simplify

import "heron/api"

// form is a simple form that is not built yet. One form stands in all the places of its copies, so that counts within one another are reckoned at once, however many nodes they come to.
type form struct {
	top   api.Node // the topmost node; its lists may be another's, so they are not handed out
	each  walk
	nodes int // one above the limit where it is more: counts within one another would leave the range of numbers
	depth int
}

// walk goes through what stands right below the topmost node of a form, in order, and hands each on.
type walk func(do func(*form))

// built is the tree of a form: each time a new one.
func (f *form) built() api.Node {
	n := f.top
	n.Ranges = append([]api.Range(nil), f.top.Ranges...)
	var subs []api.Node
	f.each(func(sub *form) { subs = append(subs, sub.built()) })
	n.Subs = subs
	return n
}

// leaf is the form of a node that has no Subs.
func leaf(top api.Node) *form {
	return &form{top: top, nodes: 1, depth: 1, each: func(func(*form)) {}}
}

func empty() *form { return leaf(api.Node{Kind: api.NodeEmpty}) }

// over is the form of a node that has one Sub.
func over(top api.Node, sub *form) *form {
	return &form{
		top:   top,
		nodes: atMost(1 + sub.nodes),
		depth: 1 + sub.depth,
		each:  func(do func(*form)) { do(sub) },
	}
}

// run is one form, so many times, one behind the other.
type run struct {
	of    *form
	times int
}

// row is a NodeCat or a NodeAlt of runs, those of its own kind dissolved: their Subs stand in their place.
func row(kind int, runs []run) *form {
	f := &form{top: api.Node{Kind: kind}, nodes: 1}
	for _, r := range runs {
		nodes, depth := r.of.nodes, r.of.depth
		if r.of.top.Kind == kind {
			nodes, depth = nodes-1, depth-1
		}
		f.nodes = atMost(f.nodes + r.times*nodes)
		f.depth = max(f.depth, 1+depth)
	}
	f.each = func(do func(*form)) {
		for _, r := range runs {
			for range r.times {
				r.of.within(kind, do)
			}
		}
	}
	return f
}

// within hands on what a form is in a row of a kind. What is to be done is handed on as it is, however deep rows stand in their like: no list is made on the way.
func (f *form) within(kind int, do func(*form)) {
	if f.top.Kind == kind {
		f.each(do)
		return
	}
	do(f)
}

// join is the chapter's JOIN.
func join(runs ...run) *form {
	var kept []run
	times := 0
	for _, r := range runs {
		if r.times > 0 && r.of.top.Kind != api.NodeEmpty {
			kept = append(kept, r)
			times += r.times
		}
	}
	switch times {
	case 0:
		return empty()
	case 1:
		return kept[0].of
	}
	return row(api.NodeCat, kept)
}

// atMost is a number of nodes, or one above the limit, if it is more.
func atMost(nodes int) int { return min(nodes, api.MaxNodes+1) }
