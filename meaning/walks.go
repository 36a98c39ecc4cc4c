package meaning

import (
	"slices"

	"heron/api"
	"heron/look"
	"heron/runes"
)

// way is what a walk does from a place on, to its end.
type way func(place int)

// deed is what is done at most once: a thing is begun, or decided about, at a place.
type deed struct{ thing, place int }

// walks goes through the walks of one tree over one text, depth first. What was done stands in one map for all of them: of the walks with one end, the first one does nothing that an earlier one did.
type walks struct {
	text   []int
	holds  []int // what holds at each place
	whole  way
	things int
	done   map[deed]struct{}
	notes  []int
	parses []api.Parse
}

func newWalks(t api.Node, text []int) *walks {
	w := &walks{text: text, done: map[deed]struct{}{}}
	for place := range len(text) + 1 {
		w.holds = append(w.holds, look.At(text, place))
	}
	w.notes = slices.Repeat([]int{-1}, 2*greatestIndex(t)+2)
	// Each end counts once, so coming through is a thing like any other.
	w.whole = w.begin(t, w.once(w.comeThrough))
	return w
}

// from is what comes of the walks that begin at a place.
func (w *walks) from(at int) []api.Parse {
	w.notes[0] = at
	w.whole(at)
	return w.parses
}

func (w *walks) comeThrough(place int) {
	caps := slices.Clone(w.notes)
	caps[1] = place
	w.parses = append(w.parses, api.Parse{End: place, Caps: caps})
}

// once is a way of a thing of its own, which comes to nothing where it was gone ahead.
func (w *walks) once(do way) way {
	w.things++
	thing := w.things
	return func(place int) {
		d := deed{thing, place}
		if _, was := w.done[d]; was {
			return
		}
		w.done[d] = struct{}{}
		do(place)
	}
}

// begin is the way that begins a node and then goes on behind it. Each call makes a copy: things of its own.
func (w *walks) begin(n api.Node, behind way) way {
	switch n.Kind {
	case api.NodeClass:
		return w.once(w.runeOf(n.Ranges, behind))
	case api.NodeAssert:
		return w.once(w.ifHolds(n.Assert, behind))
	case api.NodeCat:
		// It is begun just when its first Sub is, so it is no thing of its own.
		for _, sub := range slices.Backward(n.Subs) {
			behind = w.begin(sub, behind)
		}
		return behind
	case api.NodeAlt:
		return w.once(w.firstOf(n.Subs, behind))
	case api.NodeGroup:
		inner := w.begin(n.Subs[0], w.noted(2*n.Index+1, behind))
		return w.once(w.noted(2*n.Index, inner))
	case api.NodeRepeat:
		return w.repeat(n, behind)
	}
	// The tree is sound: no kind is left but NodeEmpty.
	return w.once(behind)
}

func (w *walks) runeOf(class []api.Range, behind way) way {
	return func(place int) {
		if place < len(w.text) && runes.Has(class, w.text[place]) {
			behind(place + 1)
		}
	}
}

func (w *walks) ifHolds(which int, behind way) way {
	return func(place int) {
		if look.Holds(which, w.holds[place]) {
			behind(place)
		}
	}
}

func (w *walks) firstOf(subs []api.Node, behind way) way {
	var ways []way
	for _, sub := range subs {
		ways = append(ways, w.begin(sub, behind))
	}
	return inOrder(ways)
}

// inOrder is the choice between ways, the better ones ahead.
func inOrder(ways []way) way {
	return func(place int) {
		for _, next := range ways {
			next(place)
		}
	}
}

// noted is a way ahead of which a place is noted; the walks that come later have what was noted before it.
func (w *walks) noted(capture int, then way) way {
	return func(place int) {
		before := w.notes[capture]
		w.notes[capture] = place
		then(place)
		w.notes[capture] = before
	}
}
