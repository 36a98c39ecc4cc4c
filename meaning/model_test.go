package meaning_test

import (
	"slices"
	"testing"

	"heron/api"
	"heron/look"
	"heron/runes"
)

// The chapter's words, one by one: the unfolded form is built, and every walk is gone, each with its own memory of what it did. That takes exponential time.

// form is a node of an unfolded tree. Kind is a node's, or one of the loops.
type form struct {
	api.Node
	subs  []*form
	above *form
	nth   int // of above's subs
}

// The loops, as kinds of forms.
const (
	formStar  = 100
	formPlus  = 101
	formQuest = 102
)

func newForm(n api.Node, subs ...*form) *form {
	f := &form{Node: n, subs: subs}
	for i, sub := range subs {
		sub.above, sub.nth = f, i
	}
	return f
}

// newLoop is a loop, lazy as its NodeRepeat is.
func newLoop(kind int, n api.Node, x *form) *form {
	return newForm(api.Node{Kind: kind, Lazy: n.Lazy}, x)
}

// row is what stands one behind the other.
func row(l []*form) *form {
	if len(l) == 0 {
		return newForm(api.Node{Kind: api.NodeEmpty})
	}
	return newForm(api.Node{Kind: api.NodeCat}, l...)
}

// unfolded is a copy of a tree's unfolded form.
func unfolded(n api.Node) *form {
	if n.Kind != api.NodeRepeat {
		var subs []*form
		for _, sub := range n.Subs {
			subs = append(subs, unfolded(sub))
		}
		return newForm(n, subs...)
	}
	x := n.Subs[0]
	if n.Min == 0 && n.Max == -1 {
		return newLoop(formStar, n, unfolded(x))
	}
	var l []*form
	if n.Max == -1 {
		for range n.Min - 1 {
			l = append(l, unfolded(x))
		}
		return row(append(l, newLoop(formPlus, n, unfolded(x))))
	}
	for range n.Min {
		l = append(l, unfolded(x))
	}
	return row(append(l, opt(n, n.Max-n.Min)...))
}

// opt is OPT(count) as what it adds to a row.
func opt(n api.Node, count int) []*form {
	if count == 0 {
		return nil
	}
	inner := append([]*form{unfolded(n.Subs[0])}, opt(n, count-1)...)
	return []*form{newLoop(formQuest, n, row(inner))}
}

// modelDeed is what no walk does twice.
type modelDeed struct {
	what  byte // b: begun, d: decided
	of    *form
	place int
}

// model goes all walks, one after the other.
type model struct {
	text  []int
	did   map[modelDeed]bool
	notes map[int]int
	steps int // that are left
	came  func(end int)
}

// doing does what a walk may do once.
func (m *model) doing(what byte, f *form, place int, do func()) {
	d := modelDeed{what, f, place}
	if m.steps--; m.did[d] || m.steps < 0 {
		return
	}
	m.did[d] = true
	do()
	delete(m.did, d)
}

func (m *model) begin(f *form, place int) {
	m.doing('b', f, place, func() {
		switch f.Kind {
		case api.NodeEmpty:
			m.goOnBehind(f, place)
		case api.NodeClass:
			if place < len(m.text) && runes.Has(f.Ranges, m.text[place]) {
				m.goOnBehind(f, place+1)
			}
		case api.NodeAssert:
			if look.Holds(f.Assert, look.At(m.text, place)) {
				m.goOnBehind(f, place)
			}
		case api.NodeCat, formPlus:
			m.begin(f.subs[0], place)
		case api.NodeAlt:
			for _, sub := range f.subs {
				m.begin(sub, place)
			}
		case api.NodeGroup:
			m.noting(2*f.Index, place, func() { m.begin(f.subs[0], place) })
		case formQuest:
			m.choose(f, place)
		case formStar:
			m.decide(f, place)
		}
	})
}

func (m *model) decide(f *form, place int) {
	m.doing('d', f, place, func() { m.choose(f, place) })
}

func (m *model) choose(f *form, place int) {
	if f.Lazy {
		m.goOnBehind(f, place)
	}
	m.begin(f.subs[0], place)
	if !f.Lazy {
		m.goOnBehind(f, place)
	}
}

func (m *model) goOnBehind(f *form, place int) {
	above := f.above
	if above == nil {
		m.came(place)
		return
	}
	switch above.Kind {
	case api.NodeCat:
		if f.nth+1 < len(above.subs) {
			m.begin(above.subs[f.nth+1], place)
		} else {
			m.goOnBehind(above, place)
		}
	case api.NodeAlt, formQuest:
		m.goOnBehind(above, place)
	case api.NodeGroup:
		m.noting(2*above.Index+1, place, func() { m.goOnBehind(above, place) })
	case formStar, formPlus:
		m.decide(above, place)
	}
}

func (m *model) noting(capture, place int, do func()) {
	before, was := m.notes[capture]
	m.notes[capture] = place
	do()
	m.notes[capture] = before
	if !was {
		delete(m.notes, capture)
	}
}

// modelGreatest is the greatest Index in a tree.
func modelGreatest(n api.Node) int {
	greatest := 0
	if n.Kind == api.NodeGroup {
		greatest = n.Index
	}
	for _, sub := range n.Subs {
		greatest = max(greatest, modelGreatest(sub))
	}
	return greatest
}

// modelParses are the parses of a tree, of each End the first; false: there are too many walks.
func modelParses(tree api.Node, text []int, at, steps int) ([]api.Parse, bool) {
	var l []api.Parse
	m := &model{text: text, did: map[modelDeed]bool{}, notes: map[int]int{}, steps: steps}
	m.came = func(end int) {
		if slices.Contains(endsOf(l), end) {
			return
		}
		caps := []int{at, end}
		for k := 2; k < 2*modelGreatest(tree)+2; k++ {
			place, is := m.notes[k]
			if !is {
				place = -1
			}
			caps = append(caps, place)
		}
		l = append(l, api.Parse{End: end, Caps: caps})
	}
	m.begin(unfolded(tree), at)
	return l, m.steps >= 0
}

// modelSize is how many nodes a tree has, reckoned by the chapter's rows.
func modelSize(n api.Node) int {
	below := 0
	for _, sub := range n.Subs {
		below += modelSize(sub)
	}
	switch {
	case n.Kind != api.NodeRepeat:
		return 1 + below
	case n.Max == -1 && n.Min == 0:
		return 1 + below
	case n.Max == -1:
		return n.Min*below + 1
	case n.Max == 0:
		return 1
	}
	return n.Min*below + (n.Max-n.Min)*(1+below)
}

// places are a set of them, by bits.
type places uint64

// endsModel tells the Ends of trees over a text by P6.3 alone: without walks. What is known is kept, or loops within one another would take exponential time.
type endsModel struct {
	text  []int
	known map[endsAsked]places
}

type endsAsked struct {
	n    *api.Node
	from places
}

// modelEnds are the Ends of a tree's parses that begin at a place.
func modelEnds(tree api.Node, text []int, at int) places {
	m := &endsModel{text: text, known: map[endsAsked]places{}}
	return m.ends(&tree, 1<<at)
}

// ends are those of a node that is begun at one of some places.
func (m *endsModel) ends(n *api.Node, from places) places {
	asked := endsAsked{n, from}
	ends, is := m.known[asked]
	if !is {
		ends = m.endsByKind(n, from)
		m.known[asked] = ends
	}
	return ends
}

func (m *endsModel) endsByKind(n *api.Node, from places) places {
	var ends places
	switch n.Kind {
	case api.NodeEmpty:
		return from
	case api.NodeClass:
		for i, r := range m.text {
			if from>>i&1 == 1 && runes.Has(n.Ranges, r) {
				ends |= 1 << (i + 1)
			}
		}
		return ends
	case api.NodeAssert:
		for i := range len(m.text) + 1 {
			if from>>i&1 == 1 && look.Holds(n.Assert, look.At(m.text, i)) {
				ends |= 1 << i
			}
		}
		return ends
	case api.NodeCat, api.NodeGroup:
		for i := range n.Subs {
			from = m.ends(&n.Subs[i], from)
		}
		return from
	case api.NodeAlt:
		for i := range n.Subs {
			ends |= m.ends(&n.Subs[i], from)
		}
		return ends
	}
	for range n.Min {
		from = m.ends(&n.Subs[0], from)
	}
	// After as many rounds as there are places, no new one is come to.
	more := len(m.text) + 1
	if n.Max >= 0 {
		more = n.Max - n.Min
	}
	for range more {
		from |= m.ends(&n.Subs[0], from)
	}
	return from
}

// listed are the places of a set, in rising order.
func (p places) listed() []int {
	var l []int
	for i := range 64 {
		if p>>i&1 == 1 {
			l = append(l, i)
		}
	}
	return l
}

// written is the unfolded form of a tree as a tree: its loops are NodeRepeats of 0 to any number, 1 to any, 0 to 1.
func written(f *form) api.Node {
	n := f.Node
	n.Subs = nil
	for _, sub := range f.subs {
		n.Subs = append(n.Subs, written(sub))
	}
	switch f.Kind {
	case formStar:
		return repeat(0, -1, f.Lazy, n.Subs[0])
	case formPlus:
		return repeat(1, -1, f.Lazy, n.Subs[0])
	case formQuest:
		return repeat(0, 1, f.Lazy, n.Subs[0])
	case api.NodeCat:
		if len(n.Subs) == 1 {
			return n.Subs[0]
		}
	}
	return n
}

// TestModel: the model says of the chapter's examples what the chapter says.
func TestModel(t *testing.T) {
	for _, c := range examples() {
		l, whole := modelParses(treeOf(t, c.pattern), runesOf(c.text), c.at, 10000)
		var caps [][]int
		for _, p := range l {
			caps = append(caps, p.Caps)
		}
		if !whole || !slices.EqualFunc(caps, c.want, slices.Equal) {
			t.Errorf("%q over %q from %d: the model has %v; want %v", c.pattern, c.text, c.at, caps, c.want)
		}
	}
}
