package pike

import (
	"cmp"
	"slices"

	"heron/api"
	"heron/look"
	"heron/sparse"
)

// machine is a program on its way through a text.
type machine struct {
	p    api.Program
	text []int

	place int
	met   *sparse.Set // the instructions that were met at the place
	bits  int         // what holds at the place; 0: not asked yet, for at each place something holds

	now, next row
	put       func(inst int, caps []int) // puts a thread behind the next row
	unset     []int                      // the captures of a thread that begins

	found api.Found
}

// newMachine is one that has not begun.
func newMachine(p api.Program, text []int) *machine {
	m := &machine{p: p, text: text, met: sparse.New(len(p.Insts)), unset: slices.Repeat([]int{-1}, p.Caps)}
	// Made once: the rows change what they hold, place by place, not where they are.
	m.put = m.next.put
	return m
}

// run goes from place to place, from at on, till nothing better can be found.
func (m *machine) run(at int, anchored bool) {
	visit := m.visit
	for m.place = at; ; m.place++ {
		m.enter()
		if m.now.each(visit) && m.begins(at, anchored) {
			visit(m.p.Start, m.unset)
		}
		m.found.Steps += m.met.Len()
		m.now, m.next = m.next, m.now
		if m.isOver(anchored) {
			return
		}
	}
}

// enter forgets what was of the place ahead.
func (m *machine) enter() {
	m.met.Clear()
	m.bits = 0
	m.next.drop()
}

// begins tells whether a thread begins at the place.
func (m *machine) begins(at int, anchored bool) bool {
	return m.place == at || !anchored && !m.found.Ok
}

// isOver tells, behind a place, whether no other one is to be gone to.
func (m *machine) isOver(anchored bool) bool {
	return m.atEnd() || m.now.count == 0 && (m.found.Ok || anchored)
}

func (m *machine) atEnd() bool { return m.place == len(m.text) }

// visit meets an instruction, if it was not met at this place, and those that it leads to; it tells whether the place goes on. The captures are behind it as they were ahead.
func (m *machine) visit(inst int, caps []int) bool {
	if !m.met.Add(inst) {
		return true
	}
	i := &m.p.Insts[inst]
	switch i.Op {
	case api.OpAlt:
		return m.visit(i.X, caps) && m.visit(i.Y, caps)
	case api.OpNop:
		return m.visit(i.X, caps)
	case api.OpCap:
		return m.note(i, caps)
	case api.OpAssert:
		return !m.holds(i.Arg) || m.visit(i.X, caps)
	case api.OpRune:
		if m.fits(i.Ranges) {
			m.put(i.X, caps)
		}
	case api.OpMatch:
		m.match(i.Arg, caps)
		return false
	}
	return true
}

// note visits what an OpCap leads to with the place as its capture. What is left of the thread behind that has not come by here, and has the captures without it.
func (m *machine) note(i *api.Inst, caps []int) bool {
	before := caps[i.Arg]
	caps[i.Arg] = m.place
	goesOn := m.visit(i.X, caps)
	caps[i.Arg] = before
	return goesOn
}

// holds tells whether an assertion does at the place.
func (m *machine) holds(which int) bool {
	if m.bits == 0 {
		m.bits = look.At(m.text, m.place)
	}
	return look.Holds(which, m.bits)
}

// fits tells whether there is a rune at the place, and a class has it. That it is a class was asked with the program: to ask it again for each rune would take as long as there are ranges.
func (m *machine) fits(class []api.Range) bool {
	if m.atEnd() {
		return false
	}
	r := m.text[m.place]
	k, _ := slices.BinarySearchFunc(class, r, func(g api.Range, r int) int { return cmp.Compare(g.Hi, r) })
	return k < len(class) && class[k].Lo <= r
}

// match has captures and a pattern as what is found, in the place of what was.
func (m *machine) match(which int, caps []int) {
	if !m.found.Ok {
		m.found.Caps = make([]int, len(caps))
	}
	copy(m.found.Caps, caps)
	m.found.Ok, m.found.Which = true, which
}
