package prog

import "heron/api"

// wholeLength is how many instructions the program of a sound tree has, or, if that is above the limit, any number above it.
func wholeLength(n api.Node) int { return 3 + length(n) }

// length is how many instructions the row of a sound tree has when its counts are unfolded, or, if that is above the limit, any number above it. Whether Simplify takes a NodeAlt apart into the one above it makes no difference: each Sub but one of both comes with two instructions.
func length(n api.Node) int {
	sum := 0
	for _, sub := range n.Subs {
		// Not far above the limit: counts within one another would leave the range of numbers.
		sum = min(sum+length(sub), api.MaxInsts+1)
	}
	switch n.Kind {
	case api.NodeClass, api.NodeAssert:
		return 1
	case api.NodeGroup:
		return sum + 2
	case api.NodeAlt:
		return sum + 2*(len(n.Subs)-1)
	case api.NodeRepeat:
		return repeatLength(n.Min, n.Max, sum)
	}
	return sum
}

// repeatLength is how many instructions a repeat comes to, of a Sub that has so many.
func repeatLength(least, most, sub int) int {
	switch {
	case most != -1:
		return least*sub + (most-least)*(1+sub)
	case least == 0:
		return sub + 2
	}
	return least*sub + 1
}
