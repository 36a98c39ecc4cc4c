package literal_test

import (
	"testing"

	"heron/api"
	"heron/literal"
)

// base is a program that may be, of every operation, with 6 captures, whose row is a b, the whole; to its instructions from the number 5 on no way leads.
func base() api.Program {
	return api.Program{Start: 2, Caps: 6, Insts: []api.Inst{
		ifB(1), match(99), note(5, 3), ifA(4), goOn(0), fail(), either(7, 0), ifHolds(api.EndLine, 4), ifRune(1, rangesOf('a', 'c', 'e', 'e')...), match(0),
	}}
}

// changed is the base with something changed.
func changed(change func(*api.Program)) api.Program {
	p := base()
	change(&p)
	return p
}

// ofCaps is a program of so many captures, whose row, if it may be, is a.
func ofCaps(caps int) api.Program {
	return api.Program{Insts: []api.Inst{ifA(1), match(0)}, Caps: caps}
}

// wrongPrograms are such as may not be, each for one thing alone, on the way from Start on and off it.
func wrongPrograms() []api.Program {
	l := []api.Program{
		{}, {Caps: 2}, {Insts: []api.Inst{}, Caps: 2}, begun(api.Inst{}), begun(many(api.MaxInsts+1, match(0))...),
		changed(func(p *api.Program) { p.Start = -1 }), changed(func(p *api.Program) { p.Start = 10 }), changed(func(p *api.Program) { p.Start = least }), changed(func(p *api.Program) { p.Start = most }),
		changed(func(p *api.Program) { p.Insts[1].Arg = api.MaxSet }), changed(func(p *api.Program) { p.Insts[1].Arg = -1 }), changed(func(p *api.Program) { p.Insts[1].X = 1 }), changed(func(p *api.Program) { p.Insts[1].Ranges = rangesOf('a', 'a') }),
		changed(func(p *api.Program) { p.Insts[2].Arg = 6 }), changed(func(p *api.Program) { p.Insts[2].Arg = -1 }), changed(func(p *api.Program) { p.Insts[2].Y = 1 }), changed(func(p *api.Program) { p.Insts[2].Ranges = rangesOf('a', 'a') }),
		changed(func(p *api.Program) { p.Insts[3].Y = 1 }), changed(func(p *api.Program) { p.Insts[3].Arg = 1 }),
		changed(func(p *api.Program) { p.Insts[4].Y = 1 }), changed(func(p *api.Program) { p.Insts[4].Arg = 1 }),
		changed(func(p *api.Program) { p.Insts[5].X = 3 }), changed(func(p *api.Program) { p.Insts[5].Ranges = rangesOf('a', 'a') }),
		changed(func(p *api.Program) { p.Insts[6].Y = 10 }), changed(func(p *api.Program) { p.Insts[6].Y = -1 }), changed(func(p *api.Program) { p.Insts[6].Arg = 1 }),
		changed(func(p *api.Program) { p.Insts[7].Arg = 0 }), changed(func(p *api.Program) { p.Insts[7].Arg = 64 }), changed(func(p *api.Program) { p.Insts[7].Arg = api.BeginLine + api.EndLine }),
		changed(func(p *api.Program) { p.Insts[9].Arg = api.MaxSet }),
	}
	for _, i := range []int{0, 3, 8} {
		for _, ranges := range [][]api.Range{nil, {}, rangesOf('b', 'a'), rangesOf('a', 'b', 'c', 'd'), rangesOf('b', 'b', 'b', 'b'), rangesOf('b', 'b', 'a', 'a'), rangesOf(-1, -1), rangesOf(api.MaxRune+1, api.MaxRune+1), rangesOf(0xD800, 0xD800), rangesOf(0xDFFF, 0xDFFF), rangesOf(0, api.MaxRune), rangesOf(least, least), rangesOf(most, most), manyRanges(api.MaxRanges + 1)} {
			l = append(l, changed(func(p *api.Program) { p.Insts[i].Ranges = ranges }))
		}
	}
	for _, caps := range []int{least, -2, 0, 1, 3, 7, 1003, 1004, most} {
		l = append(l, ofCaps(caps))
	}
	for i := range base().Insts {
		for _, op := range []int{least, -1, 0, 8, 1 << 32, most} {
			l = append(l, changed(func(p *api.Program) { p.Insts[i].Op = op }))
		}
	}
	for _, i := range []int{0, 2, 3, 4, 6, 7, 8} {
		for _, x := range []int{least, -1, 10, most} {
			l = append(l, changed(func(p *api.Program) { p.Insts[i].X = x }))
		}
	}
	return l
}

// TestWrongPrograms: P15.1, W1: programs that may not be have no row, and it is not the whole.
func TestWrongPrograms(t *testing.T) {
	wantPrefix(t, base(), runesOf("ab"), true)
	for _, caps := range []int{2, 4, 1000, 1002} {
		wantPrefix(t, ofCaps(caps), runesOf("a"), true)
	}
	for _, p := range wrongPrograms() {
		wantPrefix(t, p, nil, false)
	}
}

// TestLongRows: P15.2, W3: a row of MaxText runes, and those that are longer, with the number of the error that the chapter names.
func TestLongRows(t *testing.T) {
	l := make([]int, api.MaxText+1000)
	for _, count := range []int{api.MaxText + 1, api.MaxText + 2, api.MaxText + 1000} {
		if f, errno := literal.New(l[:count]); f != nil || errno != 2 {
			t.Errorf("%d runes: %v, %d", count, f, errno)
		}
	}
	for _, count := range []int{0, 1, 2, api.MaxText - 1, api.MaxText} {
		made(t, l[:count])
	}
}

// TestWrongPlaces: P15.3: places below 0 and beyond the text, of rows that stand there, that do not, and that have no runes.
func TestWrongPlaces(t *testing.T) {
	for _, lit := range [][]int{nil, {}, {'a'}, {'b'}, runesOf("aa"), runesOf("ab"), many(1001, int('a'))} {
		f := made(t, lit)
		for _, text := range [][]int{nil, {}, {'a'}, runesOf("aaab"), many(1000, int('a'))} {
			for _, at := range []int{least, least + 1, -1 << 32, -1 << 31, -1001, -2, -1, len(text) + 1, len(text) + 2, 5000, api.MaxText, api.MaxText + 1, 1 << 31, 1 << 32, most - 1, most} {
				if place := f.Next(text, at); place != -1 {
					t.Errorf("%s in %s from %d: %d", shown(lit), shown(text), at, place)
				}
			}
			wantNexts(t, f, lit, text)
		}
	}
}
