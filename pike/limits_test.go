package pike_test

import (
	"runtime"
	"testing"

	"heron/api"
)

// chained is a program of MaxInsts instructions, each but the last one made to lead to the one behind it.
func chained(caps int, last api.Inst, link func(next int) api.Inst) api.Program {
	p := api.Program{Caps: caps}
	for i := range api.MaxInsts - 1 {
		p.Insts = append(p.Insts, link(i+1))
	}
	p.Insts = append(p.Insts, last)
	return p
}

// TestGreatestPrograms: P11.1, W1: programs of MaxInsts instructions, all of which are met at one place, however deep.
func TestGreatestPrograms(t *testing.T) {
	last := api.MaxInsts - 1
	for _, link := range []func(int) api.Inst{
		goOn,
		func(next int) api.Inst { return either(next, 0) },
		func(next int) api.Inst { return either(next-1, next) },
		func(next int) api.Inst { return ifHolds(api.NoWordEdge, next) },
		func(next int) api.Inst { return note(0, next) },
	} {
		p := chained(2, match(3), link)
		want := -1
		if p.Insts[0].Op == api.OpCap {
			want = 0
		}
		for _, anchored := range []bool{false, true} {
			wantRun(t, p, nil, 0, anchored, found(api.MaxInsts, 3, want, -1))
			wantRun(t, p, []int{10, 10}, 0, anchored, found(api.MaxInsts, 3, want, -1))
			p.Insts[last] = fail()
			wantRun(t, p, nil, 0, anchored, nothing(api.MaxInsts))
			p.Insts[last] = goOn(0)
			wantRun(t, p, nil, 0, anchored, nothing(api.MaxInsts))
			p.Insts[last] = match(3)
		}
		p.Insts[last] = fail()
		wantRun(t, p, []int{10, 10}, 0, false, nothing(3*api.MaxInsts))
	}
	// One that takes a rune with each of them.
	p := chained(2, match(3), ifA)
	wantRun(t, p, many(last, int('a')), 0, true, found(api.MaxInsts, 3, -1, -1))
	wantRun(t, p, many(last-1, int('a')), 0, true, nothing(last))
	wantRun(t, p, many(last+1, int('a')), 1, true, found(api.MaxInsts, 3, -1, -1))
}

// TestMostSteps: P11.4: a program that meets each of its instructions at each place; and the fewest steps.
func TestMostSteps(t *testing.T) {
	half := api.MaxInsts / 2
	p := api.Program{Caps: 2}
	for i := range half {
		p.Insts = append(p.Insts, either(half+i, min(i+1, half-1)))
	}
	for i := range half {
		p.Insts = append(p.Insts, ifAny(half+i))
	}
	text := many(100, 0x10000)
	for _, at := range []int{0, 1, 50, 99, 100} {
		wantRun(t, p, text, at, false, nothing(api.MaxInsts*(101-at)))
		wantRun(t, p, text, at, true, nothing(api.MaxInsts+half*(100-at)))
	}
	for _, i := range []api.Inst{match(0), fail(), goOn(0), ifA(0), ifHolds(api.WordEdge, 0)} {
		if f := ran(t, whole(2, i), nil, 0, true); f.Steps != 1 {
			t.Errorf("%v: %d steps", i, f.Steps)
		}
	}
}

// TestManyThreads: P11.1: five hundred threads side by side, each with as many captures as may be, of its own; one alone comes through.
func TestManyThreads(t *testing.T) {
	const count = 500
	p := api.Program{Caps: 2*api.MaxGroups + 2}
	for i := range count {
		p.Insts = append(p.Insts, either(count+2*i, min(i+1, count-1)))
	}
	for i := range count {
		p.Insts = append(p.Insts, note(2+i, count+2*i+1), ifAny(3*count+i))
	}
	for i := range count {
		p.Insts = append(p.Insts, ifRune(4*count, rangesOf(i, i)...))
	}
	p.Insts = append(p.Insts, match(1))
	for _, which := range []int{0, 1, count / 2, count - 1} {
		want := many(p.Caps, -1)
		want[2+which] = 0
		wantRun(t, p, []int{7, which}, 0, true, found(3*count+count+1, 1, want...))
	}
	wantRun(t, p, []int{7, count}, 0, true, nothing(4*count))
}

// TestLongestTexts: P11.1, W7: texts of MaxText runes, and of one more.
func TestLongestTexts(t *testing.T) {
	text := many(api.MaxText+1, int('a'))
	full := text[:api.MaxText]
	wantRun(t, ofPattern(t, `a*`), full, 0, false, found(5*(api.MaxText+1), 0, 0, api.MaxText))
	wantRun(t, ofPattern(t, `b`), full, 0, false, nothing(2*(api.MaxText+1)))
	wantRun(t, ofPattern(t, `b`), full, 0, true, nothing(2))
	wantRun(t, ofPattern(t, `\z`), full, 0, false, found(2*api.MaxText+4, 0, api.MaxText, api.MaxText))
	wantRun(t, ofPattern(t, ``), full, api.MaxText, false, found(3, 0, api.MaxText, api.MaxText))
	wantRun(t, ofPattern(t, `a`), full, api.MaxText-1, true, found(4, 0, api.MaxText-1, api.MaxText))
	wantRefused(t, "one more", ofPattern(t, `a*`), text, 0, api.ErrLong)
	wantRefused(t, "one more", ofPattern(t, ``), text, api.MaxText+1, api.ErrLong)
	wantRefused(t, "beyond", ofPattern(t, ``), full, api.MaxText+1, api.ErrArg)
}

// allocated is how much memory a function asks for.
func allocated(f func()) uint64 {
	var before, after runtime.MemStats
	runtime.ReadMemStats(&before)
	f()
	runtime.ReadMemStats(&after)
	return after.TotalAlloc - before.TotalAlloc
}

// TestMemoryOfLongTexts: a long text needs no more memory than a short one, be there a find at each place, threads with many captures, or neither.
func TestMemoryOfLongTexts(t *testing.T) {
	for _, pattern := range []string{`a*`, `(a)*`, `(?:(a)|(b))*c`, `b`, `\b-`, `(a*?)(a*?)$b`} {
		p := ofPattern(t, pattern)
		text := many(200000, int('a'))
		if used := allocated(func() { ran(t, p, text, 0, false) }); used > 100000 {
			t.Errorf("%q: %d bytes", pattern, used)
		}
	}
}

// TestGreatClass: a class of many ranges is not gone through rune by rune: a text as long as may be is searched for it at once.
func TestGreatClass(t *testing.T) {
	p := whole(2, note(0, 1), ifRune(2, manyRanges(api.MaxRanges, 0)...), note(1, 3), match(0))
	text := many(api.MaxText, 2*api.MaxRanges-1)
	text[api.MaxText-1]--
	wantRun(t, p, text, 0, false, found(2*api.MaxText+2, 0, api.MaxText-1, api.MaxText))
}

// TestOverEarly: what can find nothing more is over, however much text is left: so many searches of all of it would take hours.
func TestOverEarly(t *testing.T) {
	text := many(api.MaxText, int('a'))
	vain, once := ofPattern(t, `ab`), ofPattern(t, `aab|a`)
	for at := range 50000 {
		wantRun(t, vain, text, at, true, nothing(3))
		wantRun(t, once, text, at, at%2 == 0, found(4+3+1, 0, at, at+1))
	}
}
