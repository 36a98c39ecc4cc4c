package bitstate_test

import (
	"runtime"
	"testing"

	"heron/api"
)

// chained is a program of so many instructions, each but the last one made to lead to the one behind it.
func chained(count, caps int, last api.Inst, link func(next int) api.Inst) api.Program {
	p := api.Program{Caps: caps}
	for i := range count - 1 {
		p.Insts = append(p.Insts, link(i+1))
	}
	p.Insts = append(p.Insts, last)
	return p
}

// TestGreatestMap: P12.1: instructions times places from at on: MaxMap, or as much as there is below it, and one above; be it anchored or not.
func TestGreatestMap(t *testing.T) {
	text := make([]int, api.MaxText)
	for _, x := range []struct {
		insts, places int
		big           bool
	}{
		// Just MaxMap.
		{4, 1 << 22, false}, {16, 1 << 20, false}, {1024, 1 << 14, false}, {16384, 1 << 10, false},
		// Just one above.
		{97, 257 * 673, true}, {257, 97 * 673, true}, {673, 97 * 257, true},
		// The last one that is not above, and the next.
		{3, 1<<22 + 1, false}, {4, 1<<22 + 1, true}, {5, 3355443, false}, {5, 3355444, true}, {17, 986895, false}, {17, 986896, true}, {api.MaxInsts, 838, false}, {api.MaxInsts, 839, true},
		{16, 1<<20 + 1, true}, {api.MaxInsts, 1 << 22, true}, {api.MaxInsts, 1<<22 + 1, true},
	} {
		p := chained(x.insts, 2, fail(), goOn)
		for _, at := range []int{0, 1, 1000, api.MaxText + 1 - x.places} {
			length := at + x.places - 1
			if at < 0 || length > api.MaxText {
				continue
			}
			if x.big {
				wantRefused(t, "too big", p, text[:length], at, api.ErrBig)
				continue
			}
			wantRun(t, p, text[:length], at, false, nothing(x.insts*x.places))
			wantRun(t, p, text[:length], at, true, nothing(x.insts))
		}
	}
}

// TestLateFind: P12.1: all places of the greatest map are gone through, and what is found is at the last one.
func TestLateFind(t *testing.T) {
	p := ofPattern(t, `b`)
	text := many(1<<22-1, int('a'))
	last := len(text) - 1
	wantRun(t, p, text, 0, false, nothing(2<<22))
	text[last] = 'b'
	wantRun(t, p, text, 0, false, found(2*last+4, 0, last, last+1))
	wantRun(t, p, text, last, true, found(4, 0, last, last+1))
	wantRun(t, p, text, last+1, false, nothing(2))
}

// TestLongestWay: P12.1, W1: a way through nearly all pairs of the greatest map, on which a note waits at nearly each: out of all of them, and to a Match at its end.
func TestLongestWay(t *testing.T) {
	text := many(1<<20-1, int('a'))
	last := len(text) - 1
	out := whole(1002, either(1, 15))
	for i := 1; i <= 13; i++ {
		out.Insts = append(out.Insts, note(1002-i, i+1))
	}
	out.Insts = append(out.Insts, ifA(1), match(9))
	wantRun(t, out, text, 0, true, found(1+14<<20+1, 9, many(1002, -1)...))

	through := api.Program{Caps: 14}
	for i := range 12 {
		through.Insts = append(through.Insts, note(i, i+1))
	}
	through.Insts = append(through.Insts, either(13, 14), ifA(0), ifB(15), match(9))
	wantRun(t, through, text, 0, true, nothing(15<<20))
	wantRun(t, through, text, 0, false, nothing(15<<20))
	text[last] = 'b'
	wantRun(t, through, text, 0, true, found(14*(last+1)+2, 9, append(many(12, last), -1, -1)...))
}

// TestGreatestPrograms: P12.1, W1: programs of MaxInsts instructions, all of which are met at one place, however deep.
func TestGreatestPrograms(t *testing.T) {
	last := api.MaxInsts - 1
	for _, link := range []func(int) api.Inst{
		goOn,
		func(next int) api.Inst { return either(next, 0) },
		func(next int) api.Inst { return either(next-1, next) },
		func(next int) api.Inst { return ifHolds(api.NoWordEdge, next) },
		func(next int) api.Inst { return note(0, next) },
	} {
		p := chained(api.MaxInsts, 2, match(3), link)
		want := -1
		if p.Insts[0].Op == api.OpCap {
			want = 0
		}
		for _, anchored := range []bool{false, true} {
			wantRun(t, p, nil, 0, anchored, found(api.MaxInsts, 3, want, -1))
			wantRun(t, p, []int{10, 10}, 0, anchored, found(api.MaxInsts, 3, want, -1))
			p.Insts[last] = fail()
			wantRun(t, p, nil, 0, anchored, nothing(api.MaxInsts))
			p.Insts[last] = goOn(0)
			wantRun(t, p, nil, 0, anchored, nothing(api.MaxInsts))
			p.Insts[last] = match(3)
		}
		p.Insts[last] = fail()
		wantRun(t, p, []int{10, 10}, 0, false, nothing(3*api.MaxInsts))
		wantRefused(t, "one more", whole(2, append(p.Insts, fail())...), nil, 0, api.ErrProg)
	}
	// One that takes a rune with each of those that it comes to.
	p := chained(api.MaxInsts, 2, match(3), ifA)
	p.Start = api.MaxInsts - 800
	wantRun(t, p, many(799, int('a')), 0, true, found(800, 3, -1, -1))
	wantRun(t, p, many(798, int('a')), 0, true, nothing(799))
	wantRun(t, p, many(800, int('a')), 1, true, found(800, 3, -1, -1))
}

// TestMostSteps: P12.4: a program that meets each of its instructions at each place, be it anchored or not; and the fewest steps.
func TestMostSteps(t *testing.T) {
	half := api.MaxInsts / 2
	p := api.Program{Caps: 2}
	for i := range half {
		p.Insts = append(p.Insts, either(half+i, (i+1)%half))
	}
	for i := range half {
		p.Insts = append(p.Insts, ifAny(i))
	}
	text := many(100, 0x10000)
	for _, at := range []int{0, 1, 50, 99, 100} {
		wantRun(t, p, text, at, false, nothing(api.MaxInsts*(101-at)))
		wantRun(t, p, text, at, true, nothing(api.MaxInsts*(101-at)))
	}
	for _, i := range []api.Inst{match(0), fail(), goOn(0), ifA(0), ifHolds(api.WordEdge, 0)} {
		if f := ran(t, whole(2, i), nil, 0, true); f.Steps != 1 {
			t.Errorf("%v: %d steps", i, f.Steps)
		}
	}
}

// TestLongestTexts: P12.1, W7: texts of MaxText runes, and of one more.
func TestLongestTexts(t *testing.T) {
	text := many(api.MaxText+1, int('a'))
	full := text[:api.MaxText]
	often, seldom := whole(2, either(1, 2), ifA(0), match(3)), whole(2, either(2, 1), ifA(0), match(3))
	wantRun(t, often, full, 0, false, found(2*(api.MaxText+1)+1, 3, -1, -1))
	wantRun(t, seldom, full, 0, false, found(2, 3, -1, -1))
	wantRun(t, whole(2, ifA(0)), full, 0, false, nothing(api.MaxText+1))
	wantRun(t, whole(2, ifB(0)), full, 0, false, nothing(api.MaxText+1))
	wantRun(t, whole(2, ifB(0)), full, 0, true, nothing(1))
	wantRun(t, whole(2, ifHolds(api.EndText, 1), note(1, 2), match(0)), full, 0, false, found(api.MaxText+3, 0, -1, api.MaxText))
	wantRun(t, ofPattern(t, `\z`), full, 1000000, false, found(2*(api.MaxText-1000000)+4, 0, api.MaxText, api.MaxText))
	wantRun(t, ofPattern(t, ``), full, api.MaxText, false, found(3, 0, api.MaxText, api.MaxText))
	wantRun(t, ofPattern(t, `a`), full, api.MaxText-1, true, found(4, 0, api.MaxText-1, api.MaxText))
	wantRefused(t, "too big", ofPattern(t, `a*`), full, 0, api.ErrBig)
	wantRefused(t, "one more", often, text, 0, api.ErrLong)
	wantRefused(t, "one more", ofPattern(t, ``), text, api.MaxText+1, api.ErrLong)
	wantRefused(t, "beyond", ofPattern(t, ``), full, api.MaxText+1, api.ErrArg)
}

// TestManyCaptures: P12.1: as many captures as may be, all noted and undone, way by way; one way alone comes through.
func TestManyCaptures(t *testing.T) {
	const count = 1000
	p := api.Program{Caps: 2*api.MaxGroups + 2}
	for i := range count {
		p.Insts = append(p.Insts, either(count+2*i, min(i+1, count-1)))
	}
	for i := range count {
		p.Insts = append(p.Insts, note(2+i, count+2*i+1), ifAny(3*count+i))
	}
	for i := range count {
		p.Insts = append(p.Insts, ifRune(4*count, rangesOf(i, i)...))
	}
	p.Insts = append(p.Insts, match(1))
	for _, which := range []int{0, 1, count / 2, count - 1} {
		want := many(p.Caps, -1)
		want[2+which] = 0
		wantRun(t, p, []int{7, which}, 0, true, found(4*(which+1)+1, 1, want...))
	}
	wantRun(t, p, []int{7, count}, 0, true, nothing(4*count))
}

// allocated is how much memory a function asks for.
func allocated(f func()) uint64 {
	var before, after runtime.MemStats
	runtime.ReadMemStats(&before)
	f()
	runtime.ReadMemStats(&after)
	return after.TotalAlloc - before.TotalAlloc
}

// TestMemory: a map takes a bit a pair, and none for places that are not come to; what waits takes little, too.
func TestMemory(t *testing.T) {
	text := many(1<<22-1, int('a'))
	for _, x := range []struct {
		pattern  string
		at       int
		anchored bool
		most     uint64
	}{
		{`b`, 0, true, 2000}, {`a`, 0, false, 2000}, {`b`, 0, false, 1 << 24}, {`a*?`, 1 << 21, false, 2000}, {`a*`, 1 << 21, false, 1 << 28}, {`(a)*`, 5 << 19, false, 1 << 29},
	} {
		p := ofPattern(t, x.pattern)
		if used := allocated(func() { ran(t, p, text, x.at, x.anchored) }); used > x.most {
			t.Errorf("%q: %d bytes", x.pattern, used)
		}
	}
}

// TestGreatClass: a class of many ranges is not gone through rune by rune: a text as long as may be is searched for it at once.
func TestGreatClass(t *testing.T) {
	p := whole(2, note(0, 1), ifRune(2, manyRanges(api.MaxRanges, 0)...), note(1, 3), match(0))
	text := many(1<<22-1, 2*api.MaxRanges-1)
	last := len(text) - 1
	text[last]--
	wantRun(t, p, text, 0, false, found(2*last+4, 0, last, last+1))
}

// TestOverEarly: what ends early takes no time for the text that is left: so many searches of all of it, or with a map of all of it, would take minutes.
func TestOverEarly(t *testing.T) {
	text := many(1<<21, int('a'))
	vain, once := ofPattern(t, `ab`), ofPattern(t, `a|b`)
	for at := range 300000 {
		wantRun(t, vain, text, at, true, nothing(3))
		wantRun(t, once, text, at, at%2 == 0, found(6, 0, at, at+1))
	}
}
