package onepass_test

import (
	"runtime"
	"slices"
	"testing"

	"heron/api"
	"heron/onepass"
	"heron/pike"
	"heron/prog"
)

// chained is a program of MaxInsts instructions, each but the last one made to lead to the one behind it.
func chained(last api.Inst, link func(next int) api.Inst) api.Program {
	p := api.Program{Caps: 2}
	for i := range api.MaxInsts - 1 {
		p.Insts = append(p.Insts, link(i+1))
	}
	p.Insts = append(p.Insts, last)
	return p
}

// TestGreatestClosures: P13.1, P13.2, P13.5, W1: programs of MaxInsts instructions, all of which are in one closure, however deep.
func TestGreatestClosures(t *testing.T) {
	last := api.MaxInsts - 1
	for _, link := range []func(int) api.Inst{
		goOn,
		func(next int) api.Inst { return ifHolds(api.NoWordEdge, next) },
		func(next int) api.Inst { return note(0, next) },
	} {
		p := chained(match(3), link)
		want := found(api.MaxInsts, 3, -1, -1)
		if p.Insts[0].Op == api.OpCap {
			want.Caps[0] = 0
		}
		wantIs(t, p, true)
		wantRun(t, p, nil, 0, want)
		wantRun(t, p, []int{10, 10}, 0, want)
		p.Insts[last] = fail()
		wantIs(t, p, true)
		wantRun(t, p, nil, 0, nothing(api.MaxInsts))
		// By a rune from the end to the beginning: all of them, at each place.
		p.Insts[last] = ifAny(0)
		wantIs(t, p, true)
		wantRun(t, p, many(50, 10), 0, nothing(51*api.MaxInsts))
		// And without one.
		for _, back := range []api.Inst{goOn(0), goOn(last), goOn(last / 2), either(0, 0), link(1)} {
			p.Insts[last] = back
			wantIs(t, p, false)
			wantRefused(t, "comes to itself", p, nil, 0, api.ErrOnepass)
		}
		p.Insts[last] = fail()
		p.Insts = append(p.Insts, fail())
		wantIs(t, p, false)
		wantRefused(t, "one more", p, nil, 0, api.ErrProg)
	}
	for _, link := range []func(int) api.Inst{
		func(next int) api.Inst { return either(next, 0) },
		func(next int) api.Inst { return either(0, next) },
		func(next int) api.Inst { return either(next, next) },
		func(next int) api.Inst { return either(next, last) },
	} {
		wantIs(t, chained(match(3), link), false)
	}
}

// TestLongestChain: P13.1, P13.2: a program of MaxInsts instructions that takes a rune with each: as many closures as there are.
func TestLongestChain(t *testing.T) {
	p, last := chained(match(3), ifA), api.MaxInsts-1
	wantIs(t, p, true)
	wantRun(t, p, many(last, int('a')), 0, found(api.MaxInsts, 3, -1, -1))
	wantRun(t, p, many(last-1, int('a')), 0, nothing(last))
	wantRun(t, p, many(last+1, int('a')), 1, found(api.MaxInsts, 3, -1, -1))
	p.Insts[last] = goOn(last)
	wantIs(t, p, false)
	wantRefused(t, "the last one comes to itself", p, nil, 0, api.ErrOnepass)
	p.Insts[last] = either(0, last-1)
	wantIs(t, p, false)
	p.Insts[0] = ifB(1)
	wantIs(t, p, true)
	p.Start = last
	wantIs(t, p, true)
}

// fan are instructions of one closure, from the number first on: as many OpRunes as there are classes, and OpAlts ahead of them, one less. The classes have so many ranges each, and no rune in common; where each leads to is told.
func fan(first, classes, ranges int, to func(i int) int) []api.Inst {
	var l []api.Inst
	for i := range classes - 1 {
		next := first + i + 1
		if i == classes-2 {
			next = first + 2*classes - 2
		}
		l = append(l, either(first+classes-1+i, next))
	}
	for i := range classes {
		l = append(l, ifRune(to(i), manyRanges(ranges, i, classes)...))
	}
	return l
}

// toFirst leads to the first instruction.
func toFirst(int) int { return 0 }

// with is a program with another instruction in the place of one.
func with(p api.Program, inst int, i api.Inst) api.Program {
	p.Insts = slices.Clone(p.Insts)
	p.Insts[inst] = i
	return p
}

// TestGreatestFan: P13.1, P13.2, P13.5: a closure of MaxInsts instructions, 10000 OpRunes among them, all of which are steps at each place; and two of them that share a rune.
func TestGreatestFan(t *testing.T) {
	const count, last = 10000, api.MaxInsts - 1
	p := whole(2, append([]api.Inst{goOn(1)}, fan(1, count, 1, toFirst)...)...)
	if len(p.Insts) != api.MaxInsts {
		t.Fatalf("%d", len(p.Insts))
	}
	wantIs(t, p, true)
	text := []int{0, 9999, 1, 5000, 7777}
	wantRun(t, p, text, 0, nothing(6*api.MaxInsts))
	wantRun(t, p, append(text, 10000, 4), 2, nothing(4*api.MaxInsts))
	wantFewSteps(t, p, text, 1)
	for _, x := range []struct {
		inst int
		i    api.Inst
		want bool
	}{
		{last, ifOne(0, 0), false}, {last, ifOne(9998, 0), false}, {last, ifOne(10000, 0), true}, {last, ifRune(0, rangesOf(9999, 10500)...), true}, {last, ifRune(0, rangesOf(9998, 10500)...), false},
		{count, ifRune(0, rangesOf(0, 1)...), false}, {count + 1, ifRune(0, rangesOf(0, 1)...), false}, {15000, ifOne(10000, 0), true}, {15000, ifOne(10000, 9000), true}, {15000, ifOne(7, 9000), false},
		{last, match(0), true}, {last, either(count, count+1), false}, {last, goOn(5), false}, {last, fail(), true},
	} {
		wantIs(t, with(p, x.inst, x.i), x.want)
	}
}

// The programs of the following tests lead back to a closure of 200000 ranges, thousands of times: to go through it each time would take minutes. own is a rune that none of these has, taken the last one that they have.
const own, taken = api.MaxRune, 199999 + 0x800

// TestManyRoots: P13.1: closures of thousands of reached instructions, each of which has a rune of its own, and the great closure behind it.
func TestManyRoots(t *testing.T) {
	const classes = 200
	p := whole(2, fan(0, classes, 1000, func(int) int { return 2 * classes })...)
	p.Insts = append(p.Insts, fail())
	for len(p.Insts) < api.MaxInsts-2 {
		first := len(p.Insts)
		p.Insts = append(p.Insts, either(first+1, 0), ifOne(own, first+2))
	}
	p.Insts = append(p.Insts, fail())
	wantIs(t, p, true)
	for inst := 2*classes + 1; inst < len(p.Insts); inst += 5000 {
		wantIs(t, with(p, inst, ifOne(taken, inst+1)), false)
		wantIs(t, with(p, inst, ifOne(taken+1, inst+1)), true)
	}
}

// TestManyPairsOfDoors: P13.1: likewise, but that each comes to the great closure by two ways, to parts of it that have nothing in common.
func TestManyPairsOfDoors(t *testing.T) {
	const classes = 200
	p := whole(2, fan(0, classes, 1000, func(int) int { return 2 * classes })...)
	p.Insts = append(p.Insts, fail())
	for len(p.Insts) < api.MaxInsts-3 {
		first := len(p.Insts)
		p.Insts = append(p.Insts, either(first+1, first+2), ifOne(own, first+3), either(classes-1, 1))
	}
	p.Insts = append(p.Insts, fail())
	wantIs(t, p, true)
	for inst := 2*classes + 1; inst < len(p.Insts); inst += 6000 {
		wantIs(t, with(p, inst, ifOne(taken, inst+2)), false)
		wantIs(t, with(p, inst+1, either(classes, 1)), false)
		wantIs(t, with(p, inst+1, either(classes, 2)), true)
	}
}

// TestManyInnerRoots: P13.1: likewise, but that some come to the great closure by an instruction that others have gone by ahead of them.
func TestManyInnerRoots(t *testing.T) {
	const classes, part = 200, 7
	p := whole(2, fan(0, classes, 1000, func(int) int { return 2 * classes })...)
	p.Insts = append(p.Insts, fail())
	for len(p.Insts) < api.MaxInsts-part {
		f := len(p.Insts)
		p.Insts = append(p.Insts, either(f+1, f+2), ifOne(own, f+5), either(f+3, f+4), ifOne(own-1, f+part), goOn(0), either(f+6, f+4), ifOne(own, f))
	}
	p.Insts = append(p.Insts, fail())
	wantIs(t, p, true)
	for inst := 2*classes + 6; inst < len(p.Insts); inst += 1000 * part {
		wantIs(t, with(p, inst, ifOne(taken, 0)), false)
		wantIs(t, with(p, inst, ifOne(taken+1, 0)), true)
		wantIs(t, with(p, inst, match(0)), true)
	}
}

// TestManyDoors: P13.1: likewise, but that each comes to another part of the great closure, by one way and without a rune of its own; the least part comes first.
func TestManyDoors(t *testing.T) {
	const classes = 4000
	p := whole(2, fan(0, classes, 50, func(i int) int { return 2*classes - 1 + i })...)
	for i := range classes {
		p.Insts = append(p.Insts, note(1, classes-1-i))
	}
	wantIs(t, p, true)
	last := len(p.Insts) - 1
	wantIs(t, with(p, last, goOn(last)), false)
	wantIs(t, with(p, last, either(0, 1)), false)
	wantIs(t, with(p, last, either(classes, 1)), false)
	wantIs(t, with(p, last, either(classes, 2)), true)
}

// TestRowOfOptions: P13.1: likewise, but that each has a rune of its own, and comes to another part of the great closure: that of a row of options, each with an option at its end.
func TestRowOfOptions(t *testing.T) {
	const count = 4000
	p := api.Program{Caps: 2}
	for i := range count {
		f := 4 * i
		p.Insts = append(p.Insts, either(f+1, f+4), ifRune(f+2, manyRanges(50, i, count)...), either(f+3, f+4), ifOne(own, f+4))
	}
	p.Insts = append(p.Insts, match(0))
	wantIs(t, p, true)
	// What is in an option behind is taken, what is in one ahead, or in none, is not.
	for _, x := range []struct {
		at, r int
		want  bool
	}{{0, 1, false}, {0, 0, true}, {0, 3999, false}, {0, taken, false}, {0, taken + 1, true}, {2000, 2001, false}, {2000, 2000, true}, {2000, 5, true}, {2000, 3999, false}, {3998, 3999, false}, {3998, 3998, true}, {3999, 3999, true}} {
		wantIs(t, with(p, 4*x.at+3, ifOne(x.r, 4*x.at+4)), x.want)
	}
	wantIs(t, with(p, 4*2000+3, match(0)), false)
}

// TestManyOptions: P13.1: a loop of thousands of alternatives, each with an option at its end, from which one comes back to all of them.
func TestManyOptions(t *testing.T) {
	class := func(r int) api.Node { return api.Node{Kind: api.NodeClass, Ranges: rangesOf(r, r)} }
	loop := func(count int, option func(i int) int) api.Program {
		alt := api.Node{Kind: api.NodeAlt}
		for i := range count {
			alt.Subs = append(alt.Subs, api.Node{Kind: api.NodeCat, Subs: []api.Node{class(2 * i), {Kind: api.NodeRepeat, Max: 1, Subs: []api.Node{class(option(i))}}}})
		}
		p, errno := prog.Compile(api.Node{Kind: api.NodeRepeat, Max: -1, Subs: []api.Node{alt}})
		if errno != api.OK {
			t.Fatalf("%d", errno)
		}
		return p
	}
	p := loop(3900, func(i int) int { return 2*i + 1 })
	wantIs(t, p, true)
	wantRun(t, p, []int{10, 11, 7000, 8, 9, 9}, 0, ofPike(t, p, []int{10, 11, 7000, 8, 9, 9}, 0))
	wantIs(t, loop(3900, func(i int) int { return 9001 }), true)
	// One option alone is an alternative's rune, too.
	for _, wrong := range []int{0, 1999, 3899} {
		wantIs(t, loop(3900, func(i int) int {
			if i == wrong {
				return 7000
			}
			return 9001
		}), false)
	}
}

// ofPike is what pike answers, anchored.
func ofPike(t *testing.T, p api.Program, text []int, at int) api.Found {
	f, errno := pike.Run(p, text, at, true)
	if errno != api.OK {
		t.Fatalf("%d", errno)
	}
	return f
}

// TestGreatestClasses: P13.1: classes of MaxRanges ranges: so many in one closure that nearly all runes are in them, and one more that shares a rune, or has one that is left; and far more than there can be apart, which are not all gathered.
func TestGreatestClasses(t *testing.T) {
	const classes = 222
	p := whole(2, append([]api.Inst{either(1, 2*classes)}, fan(1, classes, api.MaxRanges, toFirst)...)...)
	more := len(p.Insts)
	p.Insts = append(p.Insts, ifOne(api.MaxRune, 0))
	wantIs(t, p, true)
	for _, r := range []int{0, 1, 221, 222, 0xD7FF, 0xE000, 0xFFFF, 1109999 + 0x800, api.MaxRune} {
		wantRun(t, p, []int{r}, 0, nothing(2*len(p.Insts)))
	}
	wantRun(t, p, []int{1110000 + 0x800}, 0, nothing(len(p.Insts)))
	p.Insts[more] = ifOne(1109999+0x800, 0)
	wantIs(t, p, false)
	p.Insts[more] = ifRune(0, rangesOf(1110000+0x800, api.MaxRune)...)
	wantIs(t, p, true)
	p.Insts[more] = ifRune(0, rangesOf(1109999+0x800, api.MaxRune)...)
	wantIs(t, p, false)

	full := whole(2, fan(0, 10000, 1, toFirst)...)
	great := manyRanges(api.MaxRanges, 0, 2)
	for i := 9999; i < len(full.Insts); i++ {
		full.Insts[i] = ifRune(0, great...)
	}
	if used := allocated(func() { wantIs(t, full, false) }); used > 1<<28 {
		t.Errorf("%d bytes", used)
	}
	long := chained(match(0), func(next int) api.Inst { return ifRune(next, great...) })
	wantIs(t, long, true)
	wantRun(t, long, []int{0, 2, 4, 9998, 9999}, 0, nothing(5))
}

// TestLongestTexts: P13.2, W7: texts of MaxText runes, and of one more.
func TestLongestTexts(t *testing.T) {
	text := many(api.MaxText+1, int('a'))
	full := text[:api.MaxText]
	wantRun(t, ofPattern(t, `a*`), full, 0, found(5*(api.MaxText+1), 0, 0, api.MaxText))
	wantRun(t, ofPattern(t, `(a)*b`), full, 0, nothing(5*(api.MaxText+1)+api.MaxText))
	wantRun(t, ofPattern(t, `a*?\z`), full, 0, found(4*api.MaxText+5, 0, 0, api.MaxText))
	wantRun(t, ofPattern(t, `b`), full, 0, nothing(2))
	wantRun(t, ofPattern(t, ``), full, api.MaxText, found(3, 0, api.MaxText, api.MaxText))
	wantRun(t, ofPattern(t, `a`), full, api.MaxText-1, found(4, 0, api.MaxText-1, api.MaxText))
	wantRefused(t, "one more", ofPattern(t, `a*`), text, 0, api.ErrLong)
	wantRefused(t, "one more", ofPattern(t, ``), text, api.MaxText+1, api.ErrLong)
	wantRefused(t, "beyond", ofPattern(t, ``), full, api.MaxText+1, api.ErrArg)
}

// TestManyCaptures: P13.2: as many captures as may be go with the thread, through a long text.
func TestManyCaptures(t *testing.T) {
	const count = 1000
	p := api.Program{Caps: 2*api.MaxGroups + 2}
	want := []int{-1, -1}
	for i := range count {
		p.Insts = append(p.Insts, note(2+i, 2*i+1), ifAny(2*i+2))
		want = append(want, i)
	}
	p.Insts = append(p.Insts, either(2*count+1, 2*count+2), ifAny(2*count), match(1))
	wantIs(t, p, true)
	wantRun(t, p, make([]int, 50000), 0, found(2*count+3*(50000-count+1), 1, want...))
	wantRun(t, p, make([]int, count-1), 0, nothing(2*count))
}

// allocated is how much memory a function asks for.
func allocated(f func()) uint64 {
	var before, after runtime.MemStats
	runtime.ReadMemStats(&before)
	f()
	runtime.ReadMemStats(&after)
	return after.TotalAlloc - before.TotalAlloc
}

// TestMemoryOfLongTexts: a long text needs no more memory than a short one, be there a find at each place, captures, or neither.
func TestMemoryOfLongTexts(t *testing.T) {
	for _, pattern := range []string{`a*`, `(a)*`, `(?:(a)|(b))*c`, `b`, `(a*?)$b`, `(?:a\B)*`} {
		p := ofPattern(t, pattern)
		text := many(200000, int('a'))
		if used := allocated(func() { ran(t, p, text, 0) }); used > 20000 {
			t.Errorf("%q: %d bytes", pattern, used)
		}
	}
}

// TestGreatClass: a class of many ranges is not gone through rune by rune: a text as long as may be is gone through at once.
func TestGreatClass(t *testing.T) {
	p := whole(2, note(0, 1), either(2, 3), ifRune(1, manyRanges(api.MaxRanges, 0, 2)...), note(1, 4), match(0))
	text := many(api.MaxText, 2*api.MaxRanges-2)
	wantRun(t, p, text, 0, found(1+4*(api.MaxText+1), 0, 0, api.MaxText))
}

// TestOverEarly: what has ended takes no time for the text that is left: so many runs through all of it would take hours.
func TestOverEarly(t *testing.T) {
	text := many(api.MaxText, int('a'))
	vain, once := ofPattern(t, `ab`), ofPattern(t, `a(?:ab)?`)
	for at := range 50000 {
		wantRun(t, vain, text, at, nothing(3))
		wantRun(t, once, text, at, found(2+4+1, 0, at, at+1))
	}
	if _, errno := onepass.Run(vain, text, -1); errno != api.ErrArg {
		t.Errorf("%d", errno)
	}
}
