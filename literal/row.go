package literal

import "heron/api"

// rowOf is the row of a program that may be, and whether it is the whole.
func rowOf(p api.Program) ([]int, bool) {
	var row []int
	met := make([]bool, len(p.Insts))
	for inst := p.Start; !met[inst]; inst = p.Insts[inst].X {
		met[inst] = true
		i := p.Insts[inst]
		switch {
		case i.Op == api.OpMatch:
			return row, true
		case isOneRune(i):
			row = append(row, i.Ranges[0].Lo)
		case i.Op != api.OpNop && i.Op != api.OpCap:
			return row, false
		}
	}
	return row, false
}

// isOneRune tells whether an instruction takes one rune and no other.
func isOneRune(i api.Inst) bool {
	return i.Op == api.OpRune && len(i.Ranges) == 1 && i.Ranges[0].Lo == i.Ranges[0].Hi
}
