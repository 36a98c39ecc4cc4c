package bitstate

import (
	"cmp"
	"slices"

	"heron/api"
	"heron/look"
	"heron/sparse"
)

// machine is a program on its way through a text.
type machine struct {
	p     api.Program
	text  []int
	caps  []int              // as they are on the way that is being gone
	met   pairs              // from whatever beginning: what has led to no Match does so no more
	left  sparse.Stack[task] // a stack of its own, as a way can be longer than calls may stand within one another
	found api.Found
}

// newMachine is one that has not begun, for the places from at on.
func newMachine(p api.Program, text []int, at int) *machine {
	return &machine{p: p, text: text, caps: slices.Repeat([]int{-1}, p.Caps), met: pairs{insts: len(p.Insts), first: at}}
}

// run begins at place after place, from at on, till a Match is met.
func (m *machine) run(at int, anchored bool) {
	last := len(m.text)
	if anchored {
		last = at
	}
	for place := at; place <= last && !m.found.Ok; place++ {
		m.begin(place)
	}
}

// begin meets Start at a place, and all that it leads to, or what goes ahead of a Match. All captures are -1 ahead of it: a beginning that met no Match has made each again what it was.
func (m *machine) begin(at int) {
	m.left.Push(toMeet(m.p.Start, at))
search:
	for {
		t, more := m.left.Pop()
		if !more {
			break search
		}
		if t.isUndo() {
			t.undo(m.caps)
			continue search
		}
		inst, place := t.pair()
		for m.met.add(inst, place) {
			m.found.Steps++
			i := &m.p.Insts[inst]
			switch i.Op {
			case api.OpRune:
				if !m.fits(i.Ranges, place) {
					continue search
				}
				place++
			case api.OpAlt:
				m.left.Push(toMeet(i.Y, place))
			case api.OpCap:
				m.note(i.Arg, place)
			case api.OpAssert:
				if !look.Holds(i.Arg, look.At(m.text, place)) {
					continue search
				}
			case api.OpFail:
				continue search
			case api.OpMatch:
				m.match(i.Arg)
				break search
			}
			inst = i.X
		}
	}
}

// note has a place as a capture till what is left is gone on with.
func (m *machine) note(capture, place int) {
	m.left.Push(toUndo(capture, m.caps[capture]))
	m.caps[capture] = place
}

// match has the captures as they are, and a pattern, as what is found.
func (m *machine) match(which int) {
	m.found.Ok, m.found.Caps, m.found.Which = true, m.caps, which
}

// fits tells whether there is a rune at a place, and a class has it. That it is a class was asked with the program: to ask it again for each rune would take as long as there are ranges.
func (m *machine) fits(class []api.Range, place int) bool {
	if place == len(m.text) {
		return false
	}
	r := m.text[place]
	k, _ := slices.BinarySearchFunc(class, r, func(g api.Range, r int) int { return cmp.Compare(g.Hi, r) })
	return k < len(class) && class[k].Lo <= r
}
