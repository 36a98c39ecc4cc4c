package printer

import "heron/api"

// groups counts the groups of a tree, from the outside and the left, and keeps their names.
type groups struct {
	count int
	names map[string]struct{}
}

// takes tells whether the groups of a sound node and of all below it are a pattern's; open is how many brackets are, ahead of it.
func (g *groups) takes(n api.Node, open int) bool {
	if n.Kind == api.NodeGroup {
		if !g.isNext(n) {
			return false
		}
		open++
	}
	if open > api.MaxNest {
		return false
	}
	above := partOf(n)
	for _, sub := range n.Subs {
		within := open
		if inBrackets(above, partOf(sub)) {
			within++
		}
		if !g.takes(sub, within) {
			return false
		}
	}
	return true
}

// isNext tells whether a group has the Index behind the last one's, and a Name of its own, if any.
func (g *groups) isNext(n api.Node) bool {
	g.count++
	if n.Index != g.count {
		return false
	}
	if n.Name == "" {
		return true
	}
	_, stands := g.names[n.Name]
	g.names[n.Name] = struct{}{}
	return !stands
}
