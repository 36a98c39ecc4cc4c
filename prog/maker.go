package prog

import "heron/api"

// maker lays down trees without counts as rows of instructions.
type maker struct{ row }

// layWhole lays down the program of a tree.
func (m *maker) layWhole(n api.Node) {
	m.step(api.Inst{Op: api.OpCap, Arg: 0})
	m.lay(n)
	m.step(api.Inst{Op: api.OpCap, Arg: 1})
	m.add(api.Inst{Op: api.OpMatch})
}

// lay lays down the row of a node.
func (m *maker) lay(n api.Node) { m.way(n)(n) }

// way is how a node of its kind is laid down.
func (m *maker) way(n api.Node) func(api.Node) {
	switch n.Kind {
	case api.NodeClass:
		return m.layClass
	case api.NodeAssert:
		return m.layAssert
	case api.NodeGroup:
		return m.layGroup
	case api.NodeCat:
		return m.layCat
	case api.NodeAlt:
		return m.layAlt
	case api.NodeRepeat:
		return m.wayOfLoop(n)
	}
	return m.layEmpty
}

// wayOfLoop is how a loop is laid down: without counts there are but three.
func (m *maker) wayOfLoop(n api.Node) func(api.Node) {
	switch {
	case n.Min == 1:
		return m.layPlus
	case n.Max == 1:
		return m.layQuest
	}
	return m.layStar
}

// layEmpty has nothing to do.
func (m *maker) layEmpty(api.Node) {}

// layClass takes the node's list as its own: Simplify made it anew, and nobody else holds it.
func (m *maker) layClass(n api.Node) {
	if len(n.Ranges) == 0 {
		m.add(api.Inst{Op: api.OpFail})
		return
	}
	m.step(api.Inst{Op: api.OpRune, Ranges: n.Ranges})
}

func (m *maker) layAssert(n api.Node) { m.step(api.Inst{Op: api.OpAssert, Arg: n.Assert}) }

func (m *maker) layGroup(n api.Node) {
	m.step(api.Inst{Op: api.OpCap, Arg: 2 * n.Index})
	m.lay(n.Subs[0])
	m.step(api.Inst{Op: api.OpCap, Arg: 2*n.Index + 1})
}

func (m *maker) layCat(n api.Node) {
	for _, sub := range n.Subs {
		m.lay(sub)
	}
}

func (m *maker) layAlt(n api.Node) {
	last := len(n.Subs) - 1
	ends := make([]int, last)
	for i, sub := range n.Subs[:last] {
		at := m.next()
		m.add(api.Inst{Op: api.OpAlt})
		m.lay(sub)
		ends[i] = m.next()
		m.add(api.Inst{Op: api.OpNop})
		m.fork(at, at+1, m.next(), false)
	}
	m.lay(n.Subs[last])
	for _, end := range ends {
		m.insts[end].X = m.next()
	}
}

func (m *maker) layQuest(n api.Node) {
	at := m.next()
	m.add(api.Inst{Op: api.OpAlt})
	m.lay(n.Subs[0])
	m.fork(at, at+1, m.next(), n.Lazy)
}

func (m *maker) layStar(n api.Node) {
	at := m.next()
	m.add(api.Inst{Op: api.OpAlt})
	m.lay(n.Subs[0])
	m.add(api.Inst{Op: api.OpNop, X: at})
	m.fork(at, at+1, m.next(), n.Lazy)
}

func (m *maker) layPlus(n api.Node) {
	first := m.next()
	m.lay(n.Subs[0])
	at := m.next()
	m.add(api.Inst{Op: api.OpAlt})
	m.fork(at, first, m.next(), n.Lazy)
}
