package dfa_test

import (
	"testing"

	"heron/api"
	"heron/dfa"
)

// base is a program that may be, of every operation, with 6 captures and 8 instructions.
func base() api.Program {
	return api.Program{Start: 2, Caps: 6, Insts: []api.Inst{
		ifRune(1, rangesOf('a', 'c', 'e', 'e')...), either(7, 0), note(5, 3), ifHolds(api.EndLine, 4), match(99), fail(), goOn(2), match(0),
	}}
}

// changed is the base with something changed.
func changed(change func(*api.Program)) api.Program {
	p := base()
	change(&p)
	return p
}

// ofCaps is a program of so many captures.
func ofCaps(caps int) api.Program { return api.Program{Insts: []api.Inst{match(0)}, Caps: caps} }

// wrongPrograms are such as may not be, each for one thing alone, also in instructions to which no way leads.
func wrongPrograms() []api.Program {
	l := []api.Program{
		{}, {Caps: 2}, {Insts: []api.Inst{}, Caps: 2}, whole(api.Inst{}), whole(many(api.MaxInsts+1, match(0))...),
		changed(func(p *api.Program) { p.Start = -1 }), changed(func(p *api.Program) { p.Start = 8 }), changed(func(p *api.Program) { p.Start = most }),
		changed(func(p *api.Program) { p.Insts[0].Ranges = rangesOf('b', 'a') }), changed(func(p *api.Program) { p.Insts[0].Ranges = rangesOf('a', 'b', 'c', 'd') }),
		changed(func(p *api.Program) { p.Insts[0].Ranges = manyRanges(api.MaxRanges+1, 0, 2) }), changed(func(p *api.Program) { p.Insts[0].Ranges = nil }),
		changed(func(p *api.Program) { p.Insts[1].Y = 8 }), changed(func(p *api.Program) { p.Insts[1].Y = -1 }), changed(func(p *api.Program) { p.Insts[1].Arg = 1 }),
		changed(func(p *api.Program) { p.Insts[2].Arg = 6 }), changed(func(p *api.Program) { p.Insts[2].Arg = -1 }), changed(func(p *api.Program) { p.Insts[2].Y = 1 }),
		changed(func(p *api.Program) { p.Insts[3].Arg = 0 }), changed(func(p *api.Program) { p.Insts[3].Arg = 64 }), changed(func(p *api.Program) { p.Insts[3].Arg = api.BeginLine + api.EndLine }),
		changed(func(p *api.Program) { p.Insts[4].Arg = api.MaxSet }), changed(func(p *api.Program) { p.Insts[4].Arg = -1 }), changed(func(p *api.Program) { p.Insts[4].X = 1 }),
		changed(func(p *api.Program) { p.Insts[5].X = 3 }), changed(func(p *api.Program) { p.Insts[5].Ranges = rangesOf('a', 'a') }),
	}
	for _, caps := range []int{least, -2, 0, 1, 3, 7, 1003, 1004, most} {
		l = append(l, ofCaps(caps))
	}
	for i := range base().Insts {
		for _, op := range []int{least, -1, 0, 8, 1 << 32, most} {
			l = append(l, changed(func(p *api.Program) { p.Insts[i].Op = op }))
		}
	}
	for _, i := range []int{0, 1, 2, 3, 6} {
		for _, x := range []int{least, -1, 8, most} {
			l = append(l, changed(func(p *api.Program) { p.Insts[i].X = x }))
		}
	}
	return l
}

// wrongStates are numbers that may not be those of states.
func wrongStates() []int {
	return []int{least, least + 2, -1 << 32, -1 << 31, -2, -1, 0, 1, api.MaxStates + 1, api.MaxStates + 2, 1 << 31, 1<<32 + 2, most}
}

// TestWrongPrograms: P14.1: programs that may not be; that goes ahead of the number of states (W4).
func TestWrongPrograms(t *testing.T) {
	wantEnd(t, base(), true, anchored("a").from(1), at(1))
	for _, p := range wrongPrograms() {
		for _, states := range []int{2, 100, api.MaxStates, least, 1, api.MaxStates + 1, most} {
			wantNone(t, "may not be", p, states, api.ErrProg)
		}
	}
}

// TestWrongStates: P14.1: one below the least number of states, one above the greatest, and others; the least, the greatest and those between are fine.
func TestWrongStates(t *testing.T) {
	for _, p := range []api.Program{base(), whole(match(0)), whole(fail()), ofCaps(1002), ofPattern(t, `(?:a|b)*c`)} {
		for _, states := range wrongStates() {
			wantNone(t, "no number of states", p, states, api.ErrArg)
		}
		for _, states := range []int{2, 3, 4, 5000, api.MaxStates - 1, api.MaxStates} {
			made(t, p, states, false)
			made(t, p, states, true)
		}
	}
}

// TestWrongPlaces: P14.3, W7: places below 0 and beyond the text, and a last one that is ahead of the place or beyond the text.
func TestWrongPlaces(t *testing.T) {
	for _, p := range []api.Program{base(), whole(match(0)), whole(fail()), whole(goOn(0)), ofPattern(t, `a`)} {
		for _, longest := range []bool{false, true} {
			d := made(t, p, 3, longest)
			for _, text := range [][]int{nil, {'a'}, runesOf("aaab"), many(1000, 10)} {
				n := len(text)
				for _, anchored := range []bool{false, true} {
					for _, wrong := range []int{least, least + 1, -1 << 32, -1 << 31, -1001, -2, -1, n + 1, n + 2, 5000, api.MaxText, api.MaxText + 1, 1 << 31, 1 << 32, most - 1, most} {
						wantRefused(t, "no place", d, question{text, wrong, n, anchored}, api.ErrArg)
						wantRefused(t, "no place", d, question{text, wrong, wrong, anchored}, api.ErrArg)
						wantRefused(t, "no last place", d, question{text, 0, wrong, anchored}, api.ErrArg)
						wantRefused(t, "no last place", d, question{text, n, wrong, anchored}, api.ErrArg)
					}
					for at := 1; at <= n; at++ {
						wantRefused(t, "last ahead of the place", d, question{text, at, at - 1, anchored}, api.ErrArg)
						wantRefused(t, "last ahead of the place", d, question{text, at, 0, anchored}, api.ErrArg)
					}
				}
			}
		}
	}
	for n := range 5 {
		for place := range n + 1 {
			for last := place; last <= n; last++ {
				wantEnd(t, whole(match(0)), false, question{many(n, int('a')), place, last, false}, at(place))
				wantEnd(t, whole(match(0)), true, question{many(n, int('a')), place, last, true}, at(place))
			}
		}
	}
}

// TestLongestIsAnchored: P14.3: longest that is not anchored is refused, whatever there is to be found.
func TestLongestIsAnchored(t *testing.T) {
	for _, p := range []api.Program{base(), whole(match(0)), whole(fail()), ofPattern(t, `a`)} {
		d := made(t, p, 3, true)
		for _, text := range []string{"", "a", "ba", "\n"} {
			for _, q := range questions(runesOf(text), true) {
				want := asked(t, d, q)
				q.anchored = false
				wantRefused(t, "longest", d, q, api.ErrArg)
				q.anchored = true
				if a := asked(t, d, q); a != want {
					t.Errorf("%s: %v, then %v", q, want, a)
				}
			}
		}
	}
}

// TestWhichAhead: P14.3, W4: the text's length goes ahead of the places, and of longest that is not anchored.
func TestWhichAhead(t *testing.T) {
	long := make([]int, api.MaxText+1)
	for _, longest := range []bool{false, true} {
		d := made(t, base(), 3, longest)
		for _, anchored := range []bool{false, true} {
			for _, at := range []int{least, -1, 0, 1, api.MaxText, api.MaxText + 1, api.MaxText + 2, most} {
				for _, last := range []int{least, -1, 0, 1, api.MaxText, api.MaxText + 1, api.MaxText + 2, most} {
					wantRefused(t, "too long", d, question{long, at, last, anchored}, api.ErrLong)
				}
			}
			for _, wrong := range []int{least, -1, api.MaxText + 1, most} {
				wantRefused(t, "no place", d, question{long[:api.MaxText], wrong, api.MaxText, anchored}, api.ErrArg)
				wantRefused(t, "no last place", d, question{long[:api.MaxText], 0, wrong, anchored}, api.ErrArg)
			}
		}
	}
}

// TestNumbersOfErrors: the numbers of the errors that the chapter names.
func TestNumbersOfErrors(t *testing.T) {
	_, wrong := dfa.New(api.Program{}, 2, false)
	_, few := dfa.New(base(), 1, false)
	_, _, arg := made(t, base(), 2, false).End(nil, 1, 1, true)
	_, _, long := made(t, base(), 2, false).End(make([]int, api.MaxText+1), 0, 0, true)
	if wrong != 90 || few != 1 || arg != 1 || long != 2 {
		t.Errorf("%d %d %d %d", wrong, few, arg, long)
	}
}
