package meaning

import "heron/api"

// repeat is the way that begins the unfolded form of a NodeRepeat; its copies are laid from the last one to the first.
func (w *walks) repeat(n api.Node, behind way) way {
	if n.Max == -1 {
		return w.atLeast(n, behind)
	}
	first := behind
	for range n.Max - n.Min {
		// Whoever leaves one QUEST is behind all those that it stands in.
		first = w.once(choice(n.Lazy, w.begin(n.Subs[0], first), behind))
	}
	return w.times(n.Min, n.Subs[0], first)
}

// atLeast is the way that begins a NodeRepeat without an upper bound: a STAR, or copies and a PLUS. To begin a STAR is to decide about it, to begin a PLUS is to begin what stands in it, so neither is a thing beside that.
func (w *walks) atLeast(n api.Node, behind way) way {
	var round way
	again := func(place int) { round(place) }
	decide := w.once(choice(n.Lazy, again, behind))
	round = w.begin(n.Subs[0], decide)
	if n.Min == 0 {
		return decide
	}
	return w.times(n.Min-1, n.Subs[0], round)
}

// times is the way that begins so many copies of a node, one behind the other.
func (w *walks) times(count int, n api.Node, behind way) way {
	for range count {
		behind = w.begin(n, behind)
	}
	return behind
}

// choice is that of a loop: one more round, or going on behind it, which is the better one if the loop is lazy.
func choice(lazy bool, round, behind way) way {
	if lazy {
		return inOrder([]way{behind, round})
	}
	return inOrder([]way{round, behind})
}
