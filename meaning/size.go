package meaning

import "heron/api"

// size is how many nodes a sound tree has when its counts are unfolded, told as one above the limit where it is more: counts within one another would leave the range of numbers.
func size(n api.Node) int {
	below := 0
	for _, sub := range n.Subs {
		below += size(sub)
	}
	all := 1 + below
	if n.Kind == api.NodeRepeat {
		all = sizeOfRepeat(n, below)
	}
	return min(all, api.MaxSmall+1)
}

// sizeOfRepeat is the size of a NodeRepeat whose Sub has that of one.
func sizeOfRepeat(n api.Node, one int) int {
	if n.Max == -1 {
		return max(n.Min, 1)*one + 1
	}
	// Where nothing is left, a NodeEmpty stands.
	return max(n.Min*one+(n.Max-n.Min)*(1+one), 1)
}

// greatestIndex is that of the groups of a tree, 0 if it has none.
func greatestIndex(n api.Node) int {
	greatest := n.Index
	for _, sub := range n.Subs {
		greatest = max(greatest, greatestIndex(sub))
	}
	return greatest
}
