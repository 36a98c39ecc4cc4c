package dfa_test

import (
	"math/rand"
	"runtime"
	"testing"

	"heron/api"
)

// chained is a program of MaxInsts instructions, each but the last one made to lead to the one behind it.
func chained(last api.Inst, link func(next int) api.Inst) api.Program {
	p := api.Program{Caps: 2}
	for i := range api.MaxInsts - 1 {
		p.Insts = append(p.Insts, link(i+1))
	}
	p.Insts = append(p.Insts, last)
	return p
}

// TestGreatestPrograms: P14.1, P14.3, W1: programs of MaxInsts instructions, all of which are met at one place, however deep.
func TestGreatestPrograms(t *testing.T) {
	last := api.MaxInsts - 1
	lines := func(count, at int, anchored bool) question { return question{many(count, 10), at, count, anchored} }
	for _, link := range []func(int) api.Inst{
		goOn,
		func(next int) api.Inst { return either(next, 0) },
		func(next int) api.Inst { return either(next-1, next) },
		func(next int) api.Inst { return ifHolds(api.NoWordEdge, next) },
		func(next int) api.Inst { return note(0, next) },
	} {
		p := chained(match(3), link)
		for _, anchored := range []bool{false, true} {
			wantEnd(t, p, false, lines(0, 0, anchored), at(0))
			wantEnd(t, p, false, lines(5, 2, anchored), at(2))
			p.Insts[last] = fail()
			wantEnd(t, p, false, lines(5, 2, anchored), never())
			p.Insts[last] = goOn(0)
			wantEnd(t, p, false, lines(5, 2, anchored), never())
			// By a rune from the end to the beginning: all of them, at each place.
			p.Insts[last] = ifAny(0)
			wantEnd(t, p, false, lines(5, 0, anchored), never())
			p.Insts[last] = match(3)
		}
		wantEnd(t, p, true, lines(5, 2, true), at(2))
		p.Insts[last-1] = either(last, last-2)
		p.Insts[last-2] = ifAny(0)
		wantEnd(t, p, true, lines(5, 2, true), model(p, true, lines(5, 2, true)))
		p.Insts = append(p.Insts, fail())
		wantNone(t, "one more", p, 2, api.ErrProg)
	}
}

// TestLongestChain: P14.3: a program of MaxInsts instructions that takes a rune with each: as many states as there are instructions, and more than may be kept.
func TestLongestChain(t *testing.T) {
	p, last := chained(match(3), ifA), api.MaxInsts-1
	text := many(last+1, int('a'))
	for _, states := range []int{2, api.MaxStates} {
		for _, longest := range []bool{false, true} {
			d := made(t, p, states, longest)
			for _, x := range []struct {
				at, last int
				want     answer
			}{{0, last, at(last)}, {1, last + 1, at(last + 1)}, {0, last - 1, never()}, {2, last + 1, never()}} {
				if a := asked(t, d, question{text, x.at, x.last, true}); a != x.want {
					t.Errorf("longest %v, %d states, from %d to %d: %v; want %v", longest, states, x.at, x.last, a, x.want)
				}
			}
		}
	}
}

// TestWideRows: P14.3, P14.4: rows of thousands of instructions, as many as there are, in texts that make ever other states.
func TestWideRows(t *testing.T) {
	const wide = 6000
	// b somewhere, and so many runes further on a c.
	p := whole(either(1, 2), ifAny(0), ifB(3))
	for range wide {
		p.Insts = append(p.Insts, ifAny(len(p.Insts)+1))
	}
	p.Insts = append(p.Insts, ifOne('c', len(p.Insts)+1), match(0))
	text := many(wide+700, int('a'))
	g := rand.New(rand.NewSource(3))
	for i := range 600 {
		text[i] = 'a' + g.Intn(2)
	}
	text[400], text[401] = 'b', 'b'
	text[400+wide+1], text[401+wide+1], text[500] = 'c', 'd', 'c'
	for _, states := range someLimits() {
		d, longest := made(t, p, states, false), made(t, p, states, true)
		for _, x := range []struct {
			at   int
			want answer
		}{{0, at(wide + 402)}, {400, at(wide + 402)}, {401, never()}} {
			for _, last := range []int{wide + 402, wide + 401} {
				want := x.want
				if last == wide+401 {
					want = never()
				}
				q := question{text[:wide+402], x.at, last, true}
				if a := asked(t, d, q); a != want {
					t.Errorf("%d states: %s: %v; want %v", states, q, a, want)
				}
				if a := asked(t, longest, q); a != want {
					t.Errorf("%d states, longest: %s: %v; want %v", states, q, a, want)
				}
			}
		}
	}
}

// TestLongestTexts: P14.3, W7: texts of MaxText runes, and of one more.
func TestLongestTexts(t *testing.T) {
	text := many(api.MaxText+1, int('a'))
	full := text[:api.MaxText]
	for _, states := range []int{2, api.MaxStates} {
		for _, x := range []struct {
			pattern        string
			at             int
			first, longest answer
		}{
			{`a*`, 0, at(api.MaxText), at(api.MaxText)}, {`a*?`, 0, at(0), at(api.MaxText)}, {`b`, 0, never(), never()}, {`a*b`, 0, never(), never()}, {`(?:aaa)*`, 0, at(api.MaxText - 1), at(api.MaxText - 1)},
			{`\z`, 0, at(api.MaxText), never()}, {`a*\b`, 0, at(api.MaxText), at(api.MaxText)}, {``, api.MaxText, at(api.MaxText), at(api.MaxText)}, {`a`, api.MaxText - 1, at(api.MaxText), at(api.MaxText)},
		} {
			p := ofPattern(t, x.pattern)
			if a := asked(t, made(t, p, states, false), question{full, x.at, api.MaxText, false}); a != x.first {
				t.Errorf("%q, %d states: %v; want %v", x.pattern, states, a, x.first)
			}
			if a := asked(t, made(t, p, states, true), question{full, x.at, api.MaxText, true}); a != x.longest {
				t.Errorf("%q, %d states, longest: %v; want %v", x.pattern, states, a, x.longest)
			}
		}
	}
	d := made(t, ofPattern(t, `a*`), 2, false)
	wantRefused(t, "one more", d, question{text, 0, api.MaxText, false}, api.ErrLong)
	wantRefused(t, "one more", d, question{text, api.MaxText + 1, api.MaxText + 1, true}, api.ErrLong)
	wantRefused(t, "beyond", d, question{full, 0, api.MaxText + 1, false}, api.ErrArg)
	wantRefused(t, "beyond", d, question{full, api.MaxText + 1, api.MaxText + 1, true}, api.ErrArg)
}

// TestOneStepARune: a state that is known is not gone through again: all instructions of this program are met at each place, and a text as long as may be would take hours.
func TestOneStepARune(t *testing.T) {
	const half = api.MaxInsts / 2
	p := api.Program{Caps: 2}
	for i := range half {
		p.Insts = append(p.Insts, either(half+i, min(i+1, half-1)))
	}
	for range half {
		p.Insts = append(p.Insts, ifAny(0))
	}
	text := many(api.MaxText, 0x10000)
	for i := range text {
		text[i] += i % 50
	}
	for i := range 1000 {
		text[i*1001] = 'a' + i%5
	}
	for _, states := range []int{2, api.MaxStates} {
		d, longest := made(t, p, states, false), made(t, p, states, true)
		for range 3 {
			if a, b := asked(t, d, question{text, 0, api.MaxText, false}), asked(t, longest, question{text, 0, api.MaxText, true}); a != never() || b != never() {
				t.Errorf("%v %v", a, b)
			}
		}
	}
}

// allocated is how much memory a function asks for.
func allocated(f func()) uint64 {
	var before, after runtime.MemStats
	runtime.ReadMemStats(&before)
	f()
	runtime.ReadMemStats(&after)
	return after.TotalAlloc - before.TotalAlloc
}

// TestGreatClasses: P14.1: thousands of instructions with the same class of thousands of ranges, or with one of two: it is not had in memory thousands of times.
func TestGreatClasses(t *testing.T) {
	great, other := manyRanges(api.MaxRanges, 0, 2), manyRanges(api.MaxRanges, 1, 2)
	p := chained(match(0), func(next int) api.Inst {
		if next%3 == 0 {
			return ifRune(next, other...)
		}
		return ifRune(next, great...)
	})
	used := allocated(func() {
		d := made(t, p, 2, true)
		if a := asked(t, d, question{[]int{0, 2, 1, 4, 9998, 9999, 9997}, 0, 6, true}); a != never() {
			t.Errorf("%v", a)
		}
	})
	if used > 1<<24 {
		t.Errorf("%d bytes", used)
	}
	p.Insts[5] = match(0)
	d := made(t, p, 2, true)
	for _, x := range []struct {
		text []int
		want answer
	}{{[]int{0, 2, 1, 4, 9998, 9999}, at(5)}, {[]int{0, 2, 3, 4, 9999, 9999}, never()}, {[]int{0, 2, 2, 4, 9998, 9999}, never()}} {
		if a := asked(t, d, question{x.text, 0, 6, true}); a != x.want {
			t.Errorf("%v: %v; want %v", x.text, a, x.want)
		}
	}
}

// TestMemoryOfLongTexts: a long text needs no more memory than a short one, once the states are made.
func TestMemoryOfLongTexts(t *testing.T) {
	for _, pattern := range []string{`a*`, `(a)*`, `(?:(a)|(b))*c`, `b`, `\b-`, `(a*?)(a*?)$b`, `[^b]{20}c`} {
		d := made(t, ofPattern(t, pattern), 100, false)
		text := many(200000, int('a'))
		if used := allocated(func() { asked(t, d, question{text, 0, len(text), false}) }); used > 100000 {
			t.Errorf("%q: %d bytes", pattern, used)
		}
		if used := allocated(func() { asked(t, d, question{text, 0, len(text), false}) }); used > 2000 {
			t.Errorf("%q, once more: %d bytes", pattern, used)
		}
	}
}

// TestMemoryOfFewStates: P14.1: an automaton of few states has no more memory, however many are made one behind another.
func TestMemoryOfFewStates(t *testing.T) {
	p := ofPattern(t, `(?:a|b)*a[ab]{12}c`)
	g := rand.New(rand.NewSource(2))
	text := make([]int, 300000)
	for i := range text {
		text[i] = 'a' + g.Intn(2)
	}
	d := made(t, p, 20, false)
	var before, after runtime.MemStats
	runtime.GC()
	runtime.ReadMemStats(&before)
	if a := asked(t, d, question{text, 0, len(text), false}); a != never() {
		t.Errorf("%v", a)
	}
	runtime.GC()
	runtime.ReadMemStats(&after)
	if after.HeapAlloc > before.HeapAlloc+200000 {
		t.Errorf("%d bytes more", after.HeapAlloc-before.HeapAlloc)
	}
	runtime.KeepAlive(d)
}

// TestOverEarly: what can find nothing more is over, however much text is left: so many searches of all of it would take hours.
func TestOverEarly(t *testing.T) {
	text := many(api.MaxText, int('a'))
	for _, states := range []int{2, 100} {
		vain, once, longest := made(t, ofPattern(t, `ab`), states, false), made(t, ofPattern(t, `aab|a`), states, false), made(t, ofPattern(t, `aab|a`), states, true)
		for i := range 30000 {
			q := question{text, i, api.MaxText, true}
			if a, b, c := asked(t, vain, q), asked(t, once, q), asked(t, longest, q); a != never() || b != at(i+1) || c != at(i+1) {
				t.Fatalf("%s: %v %v %v", q, a, b, c)
			}
			q.anchored = false
			if a := asked(t, once, q); a != at(i+1) {
				t.Fatalf("%s: %v", q, a)
			}
		}
	}
}
