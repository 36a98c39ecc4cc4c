package onepass_test

import (
	"slices"
	"testing"

	"heron/api"
	"heron/onepass"
)

// base is a program that may be, of every operation, with 6 captures and 8 instructions, that has one way.
func base() api.Program {
	return api.Program{Start: 2, Caps: 6, Insts: []api.Inst{
		ifRune(1, rangesOf('a', 'c', 'e', 'e')...), either(7, 0), note(5, 3), ifHolds(api.EndLine, 4), match(99), fail(), goOn(2), match(0),
	}}
}

// changed is the base with something changed.
func changed(change func(*api.Program)) api.Program {
	p := base()
	change(&p)
	return p
}

// wrongPrograms are such as may not be, each for one thing alone, also in instructions that are not reached.
func wrongPrograms() []api.Program {
	l := []api.Program{
		{}, {Caps: 2}, {Insts: []api.Inst{}, Caps: 2}, whole(0, match(0)), whole(2, api.Inst{}), whole(2, many(api.MaxInsts+1, match(0))...),
		changed(func(p *api.Program) { p.Start = -1 }), changed(func(p *api.Program) { p.Start = 8 }), changed(func(p *api.Program) { p.Start = most }),
		changed(func(p *api.Program) { p.Insts[0].Ranges = rangesOf('b', 'a') }), changed(func(p *api.Program) { p.Insts[0].Ranges = rangesOf('a', 'b', 'c', 'd') }),
		changed(func(p *api.Program) { p.Insts[0].Ranges = manyRanges(api.MaxRanges+1, 0, 2) }), changed(func(p *api.Program) { p.Insts[0].Ranges = nil }),
		changed(func(p *api.Program) { p.Insts[0].Ranges = rangesOf(-1, 5) }), changed(func(p *api.Program) { p.Insts[0].Ranges = rangesOf(0, api.MaxRune) }), changed(func(p *api.Program) { p.Insts[0].Ranges = rangesOf(least, most) }),
		changed(func(p *api.Program) { p.Insts[1].Y = 8 }), changed(func(p *api.Program) { p.Insts[1].Y = -1 }), changed(func(p *api.Program) { p.Insts[1].Arg = 1 }),
		changed(func(p *api.Program) { p.Insts[2].Arg = 6 }), changed(func(p *api.Program) { p.Insts[2].Arg = -1 }), changed(func(p *api.Program) { p.Insts[2].Y = 1 }),
		changed(func(p *api.Program) { p.Insts[3].Arg = 0 }), changed(func(p *api.Program) { p.Insts[3].Arg = 64 }), changed(func(p *api.Program) { p.Insts[3].Arg = api.BeginLine + api.EndLine }),
		changed(func(p *api.Program) { p.Insts[4].Arg = api.MaxSet }), changed(func(p *api.Program) { p.Insts[4].Arg = -1 }), changed(func(p *api.Program) { p.Insts[4].X = 1 }),
		changed(func(p *api.Program) { p.Insts[5].X = 3 }), changed(func(p *api.Program) { p.Insts[5].Ranges = rangesOf('a', 'a') }),
	}
	for _, caps := range []int{least, -2, 0, 1, 3, 7, 1003, 1004, most} {
		l = append(l, whole(caps, match(0)))
	}
	for i := range base().Insts {
		for _, op := range []int{least, -1, 0, 8, 1 << 32, most} {
			l = append(l, changed(func(p *api.Program) { p.Insts[i].Op = op }))
		}
	}
	for _, i := range []int{0, 1, 2, 3, 6} {
		for _, x := range []int{least, -1, 8, most} {
			l = append(l, changed(func(p *api.Program) { p.Insts[i].X = x }))
		}
	}
	return l
}

// manyWays are programs that may be and have more than one way.
func manyWays(t testing.TB) []api.Program {
	return []api.Program{whole(2, goOn(0)), whole(2, either(0, 0)), whole(2, ifA(1), either(2, 2), fail()), ofPattern(t, `a*a`), ofPattern(t, `a|ab`), changed(func(p *api.Program) { p.Start = 0; p.Insts[1].Y = 7 })}
}

// TestWrongPrograms: P13.1, P13.2: programs that may not be.
func TestWrongPrograms(t *testing.T) {
	wantIs(t, base(), true)
	wantRun(t, base(), runesOf("a"), 1, found(3, 99, -1, -1, -1, -1, -1, 1))
	for _, p := range wrongPrograms() {
		wantIs(t, p, false)
		wantRefused(t, "may not be", p, nil, 0, api.ErrProg)
		wantRefused(t, "may not be", p, runesOf("ab"), 1, api.ErrProg)
		wantRefused(t, "may not be", p, runesOf("ab"), 2, api.ErrProg)
	}
}

// TestManyWays: P13.2: programs that have more than one way, whatever the text and the place, even where the run would not come to it.
func TestManyWays(t *testing.T) {
	for _, p := range manyWays(t) {
		wantIs(t, p, false)
		for _, text := range [][]int{nil, runesOf("ab"), runesOf("-"), many(1000, 10)} {
			for _, at := range []int{0, len(text) / 2, len(text)} {
				wantRefused(t, "more than one way", p, text, at, api.ErrOnepass)
			}
		}
	}
}

// TestWrongPlaces: P13.2, W7: places below 0 and beyond the text.
func TestWrongPlaces(t *testing.T) {
	programs := append(manyWays(t), base(), whole(2, match(0)), whole(2, fail()), ofPattern(t, `a`))
	for _, text := range [][]int{nil, {'a'}, runesOf("aaab"), many(1000, 10)} {
		for _, at := range []int{least, least + 1, -1 << 32, -1 << 31, -1001, -2, -1, len(text) + 1, len(text) + 2, 5000, api.MaxText, api.MaxText + 1, 1 << 31, 1 << 32, most - 1, most} {
			for _, p := range programs {
				wantRefused(t, "no place", p, text, at, api.ErrArg)
			}
		}
		for at := range len(text) + 1 {
			wantRun(t, whole(2, match(1)), text, at, found(1, 1, -1, -1))
		}
	}
}

// TestWhichAhead: P13.2: of several errors the text's length goes ahead, then the program, then the place, then that it has more than one way.
func TestWhichAhead(t *testing.T) {
	long := make([]int, api.MaxText+1)
	wrong := slices.Concat(wrongPrograms()[:3], []api.Program{whole(3, match(0)), whole(3, goOn(0)), whole(2, goOn(0), goOn(2)), whole(2, many(api.MaxInsts+1, match(0))...)})
	for _, at := range []int{least, -1, 0, 1, api.MaxText, api.MaxText + 1, api.MaxText + 2, most} {
		for _, p := range slices.Concat(wrong, manyWays(t), []api.Program{base()}) {
			wantRefused(t, "too long", p, long, at, api.ErrLong)
		}
		for _, p := range wrong {
			wantRefused(t, "may not be", p, long[:api.MaxText], at, api.ErrProg)
			wantRefused(t, "may not be", p, nil, at, api.ErrProg)
		}
	}
	for _, p := range append(manyWays(t), base()) {
		for _, at := range []int{least, -1, api.MaxText + 1, most} {
			wantRefused(t, "no place", p, long[:api.MaxText], at, api.ErrArg)
		}
	}
	for _, p := range manyWays(t) {
		for _, at := range []int{0, 1, api.MaxText} {
			wantRefused(t, "more than one way", p, long[:api.MaxText], at, api.ErrOnepass)
		}
	}
}

// TestNumbersOfErrors: the numbers of the errors that the chapter names.
func TestNumbersOfErrors(t *testing.T) {
	_, arg := onepass.Run(base(), nil, 1)
	_, long := onepass.Run(base(), make([]int, api.MaxText+1), 0)
	_, wrong := onepass.Run(api.Program{}, nil, 0)
	_, ways := onepass.Run(whole(2, goOn(0)), nil, 0)
	if arg != 1 || long != 2 || wrong != 90 || ways != 130 {
		t.Errorf("%d %d %d %d", arg, long, wrong, ways)
	}
}
