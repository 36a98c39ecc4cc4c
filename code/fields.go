package code

import "heron/api"

// words are the operations' words, by their numbers.
var words = [...]string{
	api.OpRune:   "rune",
	api.OpAlt:    "alt",
	api.OpCap:    "cap",
	api.OpAssert: "assert",
	api.OpMatch:  "match",
	api.OpFail:   "fail",
	api.OpNop:    "nop",
}

// opOf is the operation of a word; 0: it is none's.
func opOf(word string) int {
	for op, its := range words {
		if its == word {
			return op
		}
	}
	return 0
}

// layFields hands on an instruction's fields, one by one.
func layFields(i api.Inst, number func(int)) {
	switch i.Op {
	case api.OpRune:
		number(i.X)
		layRanges(i.Ranges, number)
	case api.OpAlt:
		number(i.X)
		number(i.Y)
	case api.OpCap, api.OpAssert:
		number(i.Arg)
		fallthrough
	case api.OpNop:
		number(i.X)
	case api.OpMatch:
		number(i.Arg)
	}
}

func layRanges(ranges []api.Range, number func(int)) {
	number(len(ranges))
	for _, r := range ranges {
		number(r.Lo)
		number(r.Hi)
	}
}

// takeFields is the instruction of an operation whose fields come one by one.
func takeFields(op int, number func() int) api.Inst {
	i := api.Inst{Op: op}
	switch op {
	case api.OpRune:
		i.X = number()
		i.Ranges = takeRanges(number)
	case api.OpAlt:
		i.X = number()
		i.Y = number()
	case api.OpCap, api.OpAssert:
		i.Arg = number()
		fallthrough
	case api.OpNop:
		i.X = number()
	case api.OpMatch:
		i.Arg = number()
	case api.OpFail:
	default:
		panic(broken{})
	}
	return i
}

func takeRanges(number func() int) []api.Range {
	count := number()
	// Ahead of making room: what is read may claim any number.
	if count > api.MaxRanges {
		panic(broken{})
	}
	ranges := make([]api.Range, count)
	for k := range ranges {
		ranges[k].Lo = number()
		ranges[k].Hi = number()
	}
	return ranges
}
