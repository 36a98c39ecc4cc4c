package onepass

import (
	"cmp"
	"slices"

	"heron/api"
	"heron/sparse"
)

// closure is what one comes to from instructions without reading a rune, but for what is behind its doors.
type closure struct {
	insts   []api.Inst
	met     *sparse.Set // what was come to
	readers []*api.Inst // its OpRunes
	ranges  []api.Range // theirs, sorted
	matches int         // how many OpMatches it has
	doors   []int       // where it comes to what is known and not gone into, once for each time
}

// newClosure is one in which nothing was gathered yet.
func newClosure(insts []api.Inst) closure {
	return closure{insts: insts, met: sparse.New(len(insts))}
}

// gather goes through the closures of instructions as if they were one, up to what is known to be plain; it tells whether that is plain.
func (c *closure) gather(from []int, known *sparse.Set) bool {
	c.met.Clear()
	c.readers, c.ranges, c.doors, c.matches = c.readers[:0], c.ranges[:0], c.doors[:0], 0
	for _, inst := range from {
		if !c.comeTo(inst, known) {
			return false
		}
	}
	return c.matches <= 1 && c.areApart()
}

// comeTo goes on with an instruction, and tells whether nothing was come to twice.
func (c *closure) comeTo(inst int, known *sparse.Set) bool {
	if known.Has(inst) {
		c.doors = append(c.doors, c.follow(inst))
		return true
	}
	if !c.met.Add(inst) {
		return false
	}
	i := &c.insts[inst]
	switch i.Op {
	case api.OpAlt:
		return c.comeTo(i.X, known) && c.comeTo(i.Y, known)
	case api.OpCap, api.OpAssert, api.OpNop:
		return c.comeTo(i.X, known)
	case api.OpRune:
		c.readers = append(c.readers, i)
	case api.OpMatch:
		c.matches++
	}
	return true
}

// follow goes on from an instruction whose closure is plain as long as there is but one way, and tells where it comes to: two that come to the same place are as one, and what is left out has neither OpRunes nor OpMatches.
func (c *closure) follow(inst int) int {
	for {
		switch i := &c.insts[inst]; i.Op {
		case api.OpCap, api.OpAssert, api.OpNop:
			inst = i.X
		default:
			return inst
		}
	}
}

// areApart gathers the ranges of the OpRunes, and tells whether no rune is in those of two.
func (c *closure) areApart() bool {
	count := 0
	for _, reader := range c.readers {
		// More than there are runes have some twice: so all ranges are never too many to be gathered.
		if count += runesIn(reader.Ranges); count > api.MaxRune+1 {
			return false
		}
		c.ranges = append(c.ranges, reader.Ranges...)
	}
	slices.SortFunc(c.ranges, func(a, b api.Range) int { return cmp.Compare(a.Lo, b.Lo) })
	for i := 1; i < len(c.ranges); i++ {
		if c.ranges[i].Lo <= c.ranges[i-1].Hi {
			return false
		}
	}
	return true
}

// runesIn is how many runes a class has.
func runesIn(class []api.Range) int {
	count := 0
	for _, g := range class {
		count += g.Hi - g.Lo + 1
	}
	return count
}

// isBlank tells whether it has neither OpRunes nor OpMatches.
func (c *closure) isBlank() bool { return len(c.readers) == 0 && c.matches == 0 }

// goesWith tells whether it is plain together with what is behind its doors, each being plain by itself.
func (c *closure) goesWith(behind *closure) bool {
	return c.matches+behind.matches <= 1 && !slices.ContainsFunc(c.ranges, behind.shares)
}

// shares tells whether a rune of a range is in one of its ranges, which are apart.
func (c *closure) shares(g api.Range) bool {
	k, _ := slices.BinarySearchFunc(c.ranges, g.Lo, func(o api.Range, lo int) int { return cmp.Compare(o.Hi, lo) })
	return k < len(c.ranges) && c.ranges[k].Lo <= g.Hi
}
