package printer

import (
	"heron/api"
	"heron/runes"
)

// census counts the nodes of a tree. It gives up at the first one too many: lists that stand within themselves would never end.
type census struct{ nodes int }

// takes tells whether a node and all below it are sound; depth is how many nodes lie from the topmost one down to it.
func (c *census) takes(n api.Node, depth int) bool {
	c.nodes++
	if c.nodes > api.MaxNodes || depth > api.MaxDepth || !isSound(n) {
		return false
	}
	for _, sub := range n.Subs {
		if !c.takes(sub, depth+1) {
			return false
		}
	}
	return true
}

// isSound tells whether a node has the fields of its kind, as they may be, and no others.
func isSound(n api.Node) bool {
	others := n
	others.Kind = 0
	may := false
	switch n.Kind {
	case api.NodeEmpty:
		may = true
	case api.NodeClass:
		others.Ranges = nil
		may = runes.Right(n.Ranges)
	case api.NodeAssert:
		others.Assert = 0
		may = isAssertion(n.Assert)
	case api.NodeCat, api.NodeAlt:
		others.Subs = nil
		may = len(n.Subs) >= 2
	case api.NodeRepeat:
		others.Subs, others.Min, others.Max, others.Lazy = nil, 0, 0, false
		may = len(n.Subs) == 1 && isCount(n.Min, n.Max)
	case api.NodeGroup:
		others.Subs, others.Index, others.Name = nil, 0, ""
		may = len(n.Subs) == 1 && 1 <= n.Index && n.Index <= api.MaxGroups && (n.Name == "" || isName(n.Name))
	}
	return may && isZero(others)
}

func isZero(n api.Node) bool {
	lists := len(n.Ranges) + len(n.Subs)
	return n.Kind == 0 && lists == 0 && n.Assert == 0 && n.Min == 0 && n.Max == 0 && !n.Lazy && n.Index == 0 && n.Name == ""
}

func isAssertion(which int) bool {
	switch which {
	case api.BeginText, api.EndText, api.BeginLine, api.EndLine, api.WordEdge, api.NoWordEdge:
		return true
	}
	return false
}

// isCount tells whether a node may stand so many times; a most of -1 is any number.
func isCount(least, most int) bool {
	if least < 0 || least > api.MaxCount {
		return false
	}
	return most == -1 || least <= most && most <= api.MaxCount
}

func isName(s string) bool {
	if s == "" || len(s) > api.MaxName || isDigit(s[0]) {
		return false
	}
	for i := range len(s) {
		// Of the bytes that are runes by themselves, words are made of just those that names are.
		if !runes.Word(int(s[i])) {
			return false
		}
	}
	return true
}

func isDigit(b byte) bool { return '0' <= b && b <= '9' }
