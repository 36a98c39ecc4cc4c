package onepass

import (
	"cmp"
	"slices"

	"heron/api"
	"heron/look"
)

// none is the number of no instruction.
const none = -1

// machine is a program that has one way, on it through a text.
type machine struct {
	p    api.Program
	text []int

	place int
	bits  int   // what holds at the place; 0: not asked yet, for at each place something holds
	caps  []int // the thread's captures, as they are on the way that is being gone

	// What the thread is handed to at the next place, and its captures there. One OpRune of a plain closure at most fits: so there are no others.
	next     int
	nextCaps []int

	found api.Found
}

// newMachine is one that has not begun.
func newMachine(p api.Program, text []int) *machine {
	return &machine{p: p, text: text, caps: slices.Repeat([]int{-1}, p.Caps), nextCaps: make([]int, p.Caps)}
}

// run goes with the one thread from place to place, from at on, till no OpRune fits.
func (m *machine) run(at int) {
	m.place = at
	for inst := m.p.Start; inst != none; inst = m.next {
		m.bits, m.next = 0, none
		m.comeTo(inst)
		m.caps, m.nextCaps = m.nextCaps, m.caps
		m.place++
	}
}

// comeTo goes through the closure of an instruction, and tells whether the place goes on behind it. Nothing is come to twice in a plain one: so it need not be known what was.
func (m *machine) comeTo(inst int) bool {
	m.found.Steps++
	i := &m.p.Insts[inst]
	switch i.Op {
	case api.OpAlt:
		return m.comeTo(i.X) && m.comeTo(i.Y)
	case api.OpNop:
		return m.comeTo(i.X)
	case api.OpCap:
		return m.note(i)
	case api.OpAssert:
		return !m.holds(i.Arg) || m.comeTo(i.X)
	case api.OpRune:
		if m.fits(i.Ranges) {
			m.next = i.X
			copy(m.nextCaps, m.caps)
		}
	case api.OpMatch:
		m.match(i.Arg)
		return false
	}
	return true
}

// note has the place as a capture for what an OpCap leads to. What is come to behind that has not come by here, and has the captures without it.
func (m *machine) note(i *api.Inst) bool {
	before := m.caps[i.Arg]
	m.caps[i.Arg] = m.place
	goesOn := m.comeTo(i.X)
	m.caps[i.Arg] = before
	return goesOn
}

// holds tells whether an assertion does at the place.
func (m *machine) holds(which int) bool {
	if m.bits == 0 {
		m.bits = look.At(m.text, m.place)
	}
	return look.Holds(which, m.bits)
}

// fits tells whether there is a rune at the place, and a class has it. That it is a class was asked with the program: to ask it again for each rune would take as long as there are ranges.
func (m *machine) fits(class []api.Range) bool {
	if m.place == len(m.text) {
		return false
	}
	r := m.text[m.place]
	k, _ := slices.BinarySearchFunc(class, r, func(g api.Range, r int) int { return cmp.Compare(g.Hi, r) })
	return k < len(class) && class[k].Lo <= r
}

// match has the captures as they are, and a pattern, as what is found, in the place of what was.
func (m *machine) match(which int) {
	if !m.found.Ok {
		m.found.Caps = make([]int, len(m.caps))
	}
	copy(m.found.Caps, m.caps)
	m.found.Ok, m.found.Which = true, which
}
