package prog

import (
	"heron/api"
	"heron/runes"
)

// mayBe tells whether a program may be. (One without instructions has none at which it could start.)
func mayBe(p api.Program) bool {
	count := len(p.Insts)
	if count > api.MaxInsts || !below(p.Start, count) || !isCaps(p.Caps) {
		return false
	}
	for _, i := range p.Insts {
		if !isInst(i, count, p.Caps) {
			return false
		}
	}
	return true
}

// below tells whether a number is one of so many from 0 on.
func below(n, count int) bool { return 0 <= n && n < count }

// isCaps tells whether a program may have so many captures.
func isCaps(caps int) bool { return 2 <= caps && caps <= 2*api.MaxGroups+2 && caps%2 == 0 }

// isInst tells whether an instruction may be in a program of so many, with so many captures.
func isInst(i api.Inst, count, caps int) bool {
	return isTarget(i.X, hasX(i.Op), count) && isTarget(i.Y, hasY(i.Op), count) && isArg(i.Op, i.Arg, caps) && isRanges(i.Op, i.Ranges)
}

// hasX tells whether an operation goes on with X.
func hasX(op int) bool {
	switch op {
	case api.OpRune, api.OpAlt, api.OpCap, api.OpAssert, api.OpNop:
		return true
	}
	return false
}

// hasY tells whether an operation may go on with Y.
func hasY(op int) bool { return op == api.OpAlt }

// isTarget tells whether X or Y is as it may be: zero where the operation has none.
func isTarget(to int, has bool, count int) bool {
	if !has {
		return to == 0
	}
	return below(to, count)
}

// isArg tells whether an operation, which must be one, may have such an Arg.
func isArg(op, arg, caps int) bool {
	switch op {
	case api.OpCap:
		return below(arg, caps)
	case api.OpAssert:
		return isAssertion(arg)
	case api.OpMatch:
		return below(arg, api.MaxSet)
	case api.OpRune, api.OpAlt, api.OpFail, api.OpNop:
		return arg == 0
	}
	return false
}

func isAssertion(which int) bool {
	switch which {
	case api.BeginText, api.EndText, api.BeginLine, api.EndLine, api.WordEdge, api.NoWordEdge:
		return true
	}
	return false
}

// isRanges tells whether an operation may have such ranges.
func isRanges(op int, ranges []api.Range) bool {
	if op != api.OpRune {
		return len(ranges) == 0
	}
	return len(ranges) > 0 && runes.Right(ranges)
}
