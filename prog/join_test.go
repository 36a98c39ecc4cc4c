package prog_test

import (
	"testing"

	"heron/api"
)

// TestJoin: P9.3: one program, two, three, MaxSet of them; Starts that are not 0.
func TestJoin(t *testing.T) {
	a := api.Range{Lo: 'a', Hi: 'a'}
	one := api.Program{Start: 1, Caps: 4, Insts: []api.Inst{match(7), ifRune(2, a), either(0, 1), note(3, 0)}}
	two := api.Program{Start: 2, Caps: 2, Insts: []api.Inst{fail(), ifHolds(api.WordEdge, 0), goOn(1)}}
	three := api.Program{Start: 0, Caps: 6, Insts: []api.Inst{either(1, 2), match(3), match(99)}}
	wantJoined(t, []api.Program{one}, api.Program{Start: 1, Caps: 4, Insts: []api.Inst{match(0), ifRune(2, a), either(0, 1), note(3, 0)}})
	wantJoined(t, []api.Program{two}, two)
	wantJoined(t, []api.Program{three}, api.Program{Caps: 6, Insts: []api.Inst{either(1, 2), match(0), match(0)}})
	wantJoined(t, []api.Program{one, two}, whole(4,
		either(2, 7),
		match(0), ifRune(3, a), either(1, 2), note(3, 1),
		fail(), ifHolds(api.WordEdge, 5), goOn(6)))
	wantJoined(t, []api.Program{two, one}, whole(4,
		either(3, 5),
		fail(), ifHolds(api.WordEdge, 1), goOn(2),
		match(1), ifRune(6, a), either(4, 5), note(3, 4)))
	wantJoined(t, []api.Program{two, three, one}, whole(6,
		either(4, 1), either(5, 9),
		fail(), ifHolds(api.WordEdge, 2), goOn(3),
		either(6, 7), match(1), match(1),
		match(2), ifRune(10, a), either(8, 9), note(3, 8)))
	wantJoined(t, []api.Program{three, three, three, three}, whole(6,
		either(3, 1), either(6, 2), either(9, 12),
		either(4, 5), match(0), match(0),
		either(7, 8), match(1), match(1),
		either(10, 11), match(2), match(2),
		either(13, 14), match(3), match(3)))
}

// TestJoinOfMany: P9.3: as many programs as may be, and one more; none.
func TestJoinOfMany(t *testing.T) {
	l := many(api.MaxSet, api.Program{Start: 1, Caps: 2, Insts: []api.Inst{match(0), goOn(0)}})
	want := whole(2)
	for i := range api.MaxSet - 1 {
		want.Insts = append(want.Insts, either(99+2*i+1, i+1))
	}
	want.Insts[98].Y = 99 + 2*99 + 1
	for i := range api.MaxSet {
		want.Insts = append(want.Insts, match(i), goOn(99+2*i))
	}
	wantJoined(t, l, want)
	wantJoin(t, "one more", many(api.MaxSet+1, l[0]), api.ErrArg)
	wantJoin(t, "far more", many(5000, l[0]), api.ErrArg)
	wantJoin(t, "none", nil, api.ErrArg)
	wantJoin(t, "none in an empty list", []api.Program{}, api.ErrArg)
}

// TestJoinOfLengths: P9.3: sums of instructions at the limit, and beyond.
func TestJoinOfLengths(t *testing.T) {
	most := api.MaxInsts
	for what, x := range map[string]struct {
		lengths []int
		want    api.Errno
	}{
		"one":             {[]int{most}, api.OK},
		"two":             {[]int{most / 2, most/2 - 1}, api.OK},
		"two, more":       {[]int{most / 2, most / 2}, api.ErrBig},
		"a great one":     {[]int{most - 2, 1}, api.OK},
		"a great one, +1": {[]int{most - 1, 1}, api.ErrBig},
		"a small one, +1": {[]int{1, most - 1}, api.ErrBig},
		"three":           {[]int{1, most - 4, 1}, api.OK},
		"three, more":     {[]int{1, most - 3, 1}, api.ErrBig},
		"a hundred":       {append(many(99, 199), 200), api.OK},
		"a hundred, more": {append(many(99, 199), 201), api.ErrBig},
		"as many":         {many(100, most), api.ErrBig},
	} {
		var l []api.Program
		sum := len(x.lengths) - 1
		for _, n := range x.lengths {
			l = append(l, ofLength(n))
			sum += n
		}
		wantJoin(t, what, l, x.want)
		if x.want != api.OK {
			continue
		}
		p := joined(t, l...)
		if len(p.Insts) != sum {
			t.Errorf("%s: %d instructions; want %d", what, len(p.Insts), sum)
		}
		wantCheck(t, what, p, api.OK)
	}
}

// TestJoinOfWrong: P9.3: programs that may not be, wherever they stand, and which error goes ahead.
func TestJoinOfWrong(t *testing.T) {
	right, great := ofLength(2), ofLength(api.MaxInsts)
	for what, wrong := range map[string]api.Program{
		"none": {}, "no captures": whole(0, match(0)), "no Op": whole(2, api.Inst{}), "X too great": whole(2, goOn(1)), "X below": whole(2, goOn(-1)),
		"Y too great": whole(2, either(0, 1)), "Arg too great": whole(2, match(api.MaxSet)), "no ranges": whole(2, ifRune(0)), "Start too great": {Start: 1, Caps: 2, Insts: []api.Inst{match(0)}},
		"too long": ofLength(api.MaxInsts + 1), "Y of what has none": whole(2, api.Inst{Op: api.OpNop, Y: 1}),
	} {
		wantJoin(t, what, []api.Program{wrong}, api.ErrProg)
		wantJoin(t, what+", first", []api.Program{wrong, right}, api.ErrProg)
		wantJoin(t, what+", last", []api.Program{right, right, wrong}, api.ErrProg)
		wantJoin(t, what+", behind too many instructions", []api.Program{great, great, wrong}, api.ErrProg)
		wantJoin(t, what+", ahead of too many instructions", []api.Program{wrong, great, great}, api.ErrProg)
		wantJoin(t, what+", too many programs", append(many(api.MaxSet, right), wrong), api.ErrArg)
	}
	wantJoin(t, "too many programs, too many instructions", many(api.MaxSet+1, great), api.ErrArg)
}
