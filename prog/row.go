package prog

import "heron/api"

// row is instructions, one behind the other, numbered from 0 on.
type row struct{ insts []api.Inst }

// newRow is one without instructions, with room for so many.
func newRow(count int) row { return row{insts: make([]api.Inst, 0, count)} }

// next is the number that the next instruction will have.
func (r *row) next() int { return len(r.insts) }

// add puts an instruction behind the others, as it is.
func (r *row) add(i api.Inst) { r.insts = append(r.insts, i) }

// step puts an instruction behind the others that goes on with the one right behind itself.
func (r *row) step(i api.Inst) {
	i.X = r.next() + 1
	r.add(i)
}

// fork has an OpAlt go on with its round, or else past it; a lazy one the other way about.
func (r *row) fork(at, round, past int, lazy bool) {
	if lazy {
		round, past = past, round
	}
	r.insts[at].X, r.insts[at].Y = round, past
}
