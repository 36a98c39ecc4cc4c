package bitstate_test

import (
	"slices"
	"testing"

	"heron/api"
	"heron/bitstate"
)

// base is a program that may be, of every operation, with 6 captures and 8 instructions.
func base() api.Program {
	return api.Program{Start: 2, Caps: 6, Insts: []api.Inst{
		ifRune(1, rangesOf('a', 'c', 'e', 'e')...), either(7, 0), note(5, 3), ifHolds(api.EndLine, 4), match(99), fail(), goOn(2), match(0),
	}}
}

// changed is the base with something changed.
func changed(change func(*api.Program)) api.Program {
	p := base()
	change(&p)
	return p
}

// wrongPrograms are such as may not be, each for one thing alone, also in instructions to which no way leads.
func wrongPrograms() []api.Program {
	l := []api.Program{
		{}, {Caps: 2}, {Insts: []api.Inst{}, Caps: 2}, whole(0, match(0)), whole(2, api.Inst{}), whole(2, many(api.MaxInsts+1, match(0))...),
		changed(func(p *api.Program) { p.Start = -1 }), changed(func(p *api.Program) { p.Start = 8 }), changed(func(p *api.Program) { p.Start = most }),
		changed(func(p *api.Program) { p.Insts[0].Ranges = rangesOf('b', 'a') }), changed(func(p *api.Program) { p.Insts[0].Ranges = rangesOf('a', 'b', 'c', 'd') }),
		changed(func(p *api.Program) { p.Insts[0].Ranges = manyRanges(api.MaxRanges+1, 0) }), changed(func(p *api.Program) { p.Insts[0].Ranges = nil }),
		changed(func(p *api.Program) { p.Insts[1].Y = 8 }), changed(func(p *api.Program) { p.Insts[1].Y = -1 }), changed(func(p *api.Program) { p.Insts[1].Arg = 1 }),
		changed(func(p *api.Program) { p.Insts[2].Arg = 6 }), changed(func(p *api.Program) { p.Insts[2].Arg = -1 }), changed(func(p *api.Program) { p.Insts[2].Y = 1 }),
		changed(func(p *api.Program) { p.Insts[3].Arg = 0 }), changed(func(p *api.Program) { p.Insts[3].Arg = 64 }), changed(func(p *api.Program) { p.Insts[3].Arg = api.BeginLine + api.EndLine }),
		changed(func(p *api.Program) { p.Insts[4].Arg = api.MaxSet }), changed(func(p *api.Program) { p.Insts[4].Arg = -1 }), changed(func(p *api.Program) { p.Insts[4].X = 1 }),
		changed(func(p *api.Program) { p.Insts[5].X = 3 }), changed(func(p *api.Program) { p.Insts[5].Ranges = rangesOf('a', 'a') }),
	}
	for _, caps := range []int{least, -2, 0, 1, 3, 7, 1003, 1004, most} {
		p := whole(caps, match(0))
		l = append(l, p)
	}
	for i := range base().Insts {
		for _, op := range []int{least, -1, 0, 8, 1 << 32, most} {
			l = append(l, changed(func(p *api.Program) { p.Insts[i].Op = op }))
		}
	}
	for _, i := range []int{0, 1, 2, 3, 6} {
		for _, x := range []int{least, -1, 8, most} {
			l = append(l, changed(func(p *api.Program) { p.Insts[i].X = x }))
		}
	}
	return l
}

// TestWrongPrograms: P12.1: programs that may not be.
func TestWrongPrograms(t *testing.T) {
	wantRun(t, base(), runesOf("a"), 1, true, found(3, 99, -1, -1, -1, -1, -1, 1))
	for _, p := range wrongPrograms() {
		wantRefused(t, "may not be", p, nil, 0, api.ErrProg)
		wantRefused(t, "may not be", p, runesOf("ab"), 1, api.ErrProg)
		wantRefused(t, "may not be", p, runesOf("ab"), 2, api.ErrProg)
	}
}

// TestWrongPlaces: P12.1, W7: places below 0 and beyond the text.
func TestWrongPlaces(t *testing.T) {
	for _, text := range [][]int{nil, {'a'}, runesOf("aaab"), many(1000, 10)} {
		for _, at := range []int{least, least + 1, -1 << 32, -1 << 31, -1001, -2, -1, len(text) + 1, len(text) + 2, 5000, api.MaxText, api.MaxText + 1, 1 << 31, 1 << 32, most - 1, most} {
			for _, p := range []api.Program{base(), whole(2, match(0)), whole(2, fail()), whole(2, goOn(0)), ofPattern(t, `a`)} {
				wantRefused(t, "no place", p, text, at, api.ErrArg)
			}
		}
		for at := range len(text) + 1 {
			wantRun(t, whole(2, match(1)), text, at, true, found(1, 1, -1, -1))
		}
	}
}

// TestWhichAhead: P12.1, W4: of several errors the text's length goes ahead, then the program, then the place, then the map.
func TestWhichAhead(t *testing.T) {
	long := make([]int, api.MaxText+1)
	wrong := slices.Concat(wrongPrograms()[:3], []api.Program{whole(3, match(0)), whole(2, many(api.MaxInsts+1, match(0))...)})
	for _, at := range []int{least, -1, 0, 1, api.MaxText, api.MaxText + 1, api.MaxText + 2, most} {
		wantRefused(t, "too long", base(), long, at, api.ErrLong)
		for _, p := range wrong {
			wantRefused(t, "too long, and may not be", p, long, at, api.ErrLong)
			wantRefused(t, "may not be", p, long[:api.MaxText], at, api.ErrProg)
			wantRefused(t, "may not be", p, nil, at, api.ErrProg)
		}
	}
	for _, p := range []api.Program{base(), whole(2, many(api.MaxInsts, match(0))...)} {
		for _, at := range []int{least, least + 1, -1, api.MaxText + 1, api.MaxText + 2, most} {
			wantRefused(t, "no place", p, long[:api.MaxText], at, api.ErrArg)
		}
		for _, at := range []int{0, 1, 1000} {
			wantRefused(t, "too big", p, long[:api.MaxText], at, api.ErrBig)
		}
	}
}

// TestNumbersOfErrors: the numbers of the errors that the chapter names.
func TestNumbersOfErrors(t *testing.T) {
	text := make([]int, api.MaxText+1)
	_, arg := bitstate.Run(base(), nil, 1, false)
	_, long := bitstate.Run(base(), text, 0, false)
	_, big := bitstate.Run(base(), text[:api.MaxText], 0, false)
	_, wrong := bitstate.Run(api.Program{}, nil, 0, false)
	if arg != 1 || long != 2 || big != 3 || wrong != 90 {
		t.Errorf("%d %d %d %d", arg, long, big, wrong)
	}
}
