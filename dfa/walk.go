package dfa

import (
	"cmp"
	"math"
	"slices"

	"heron/api"
	"heron/look"
	"heron/sparse"
)

// walk goes through a program at one place, from the row that came there to the one that goes on.
type walk struct {
	p       *program
	longest bool

	// What is at the place: what holds, and the rune, if one may be taken.
	bits  int
	takes bool
	r     int

	met     *sparse.Set // the instructions that were met
	matched bool        // whether an OpMatch was

	row     []int       // what waits at the next place
	waiting *sparse.Set // the same, to be asked

	lo, hi int // From the one to the other, runes without slots lead where this one leads.

	memory []byte // of contents, which are kept elsewhere
}

// newWalk is one that has not begun.
func newWalk(p *program, longest bool) walk {
	count := len(p.steps)
	return walk{p: p, longest: longest, met: sparse.New(count), waiting: sparse.New(count)}
}

// begin has the row of a search that comes to its first place. One that is not anchored has none: its beginning stands behind each row.
func (w *walk) begin(anchored bool) {
	w.row = w.row[:0]
	if anchored {
		w.row = append(w.row, w.p.start)
	}
}

// enter forgets the place ahead, and has what is at another one.
func (w *walk) enter(bits int) {
	w.bits, w.takes, w.matched = bits, false, false
	w.met.Clear()
	w.waiting.Clear()
	w.row = w.row[:0]
}

// take has a rune that may be taken.
func (w *walk) take(r int) {
	w.r, w.takes = r, true
	w.lo, w.hi = math.MinInt, math.MaxInt
}

// run visits what a content has, in its order.
func (w *walk) run(c content) {
	if c.each(w.visit) && c.begins() {
		w.visit(w.p.start)
	}
}

// visit meets an instruction, if it was not met yet, and those that it leads to; it tells whether the place goes on.
func (w *walk) visit(inst int) bool {
	if !w.met.Add(inst) {
		return true
	}
	s := &w.p.steps[inst]
	switch s.op {
	case api.OpAlt:
		return w.visit(s.x) && w.visit(s.y)
	case api.OpAssert:
		return !look.Holds(s.arg, w.bits) || w.visit(s.x)
	case api.OpRune:
		if w.takes && w.fits(s.class) && w.waiting.Add(s.x) {
			w.row = append(w.row, s.x)
		}
	case api.OpMatch:
		w.matched = true
		// Without longest it is better than all that stands behind it.
		return w.longest
	}
	return true
}

// fits tells whether a class has the rune, and narrows what is around it to runes of which the same is told. That it is a class was asked with the program.
func (w *walk) fits(class []api.Range) bool {
	k, _ := slices.BinarySearchFunc(class, w.r, func(g api.Range, r int) int { return cmp.Compare(g.Hi, r) })
	if k < len(class) && class[k].Lo <= w.r {
		w.lo, w.hi = max(w.lo, class[k].Lo), min(w.hi, class[k].Hi)
		return true
	}
	if k > 0 {
		w.lo = max(w.lo, class[k-1].Hi+1)
	}
	if k < len(class) {
		w.hi = min(w.hi, class[k].Lo-1)
	}
	return false
}

// content is that of the state with the row, in memory that is good till the next one is asked for.
func (w *walk) content(kind int, begins bool) []byte {
	if w.longest {
		// Nothing is ahead of another one: rows of the same are the same.
		slices.Sort(w.row)
	}
	w.memory = appendContent(w.memory[:0], kind, begins, w.row)
	return w.memory
}
