package prog

import "heron/api"

// joined are programs that may be, side by side, which have so many instructions together.
func joined(l []api.Program, count int) api.Program {
	r := newRow(count)
	entries := entriesOf(l)
	last := len(l) - 1
	for i, entry := range entries[:last] {
		r.add(api.Inst{Op: api.OpAlt, X: entry, Y: i + 1})
	}
	whole := api.Program{Start: entries[0]}
	if last > 0 {
		r.insts[last-1].Y = entries[last]
		whole.Start = 0
	}
	for which, p := range l {
		r.addMoved(p, which)
		whole.Caps = max(whole.Caps, p.Caps)
	}
	whole.Insts = r.insts
	return whole
}

// entriesOf are the numbers that the programs' first instructions will have, behind the OpAlts.
func entriesOf(l []api.Program) []int {
	entries := make([]int, len(l))
	by := len(l) - 1
	for i, p := range l {
		entries[i] = by + p.Start
		by += len(p.Insts)
	}
	return entries
}

// addMoved puts the instructions of a program, which is that pattern's, behind the others.
func (r *row) addMoved(p api.Program, which int) {
	by := r.next()
	for _, i := range p.Insts {
		if hasX(i.Op) {
			i.X += by
		}
		if hasY(i.Op) {
			i.Y += by
		}
		if i.Op == api.OpMatch {
			i.Arg = which
		}
		i.Ranges = append([]api.Range(nil), i.Ranges...)
		r.add(i)
	}
}
