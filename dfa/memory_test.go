package dfa_test

import (
	"runtime"
	"slices"
	"sync"
	"testing"
	"weak"

	"heron/api"
	"heron/dfa"
)

// withRoom is a list with spare room, marked.
func withRoom[T any](l []T, mark T) []T { return append(slices.Clone(l), mark)[:len(l)] }

// roomOf is what stands in the spare room that withRoom made.
func roomOf[T any](l []T) T { return l[:len(l)+1][len(l)] }

// The marks.

func markOfRanges() api.Range { return api.Range{Lo: -7, Hi: -7} }

func markOfInsts() api.Inst { return api.Inst{Op: -7} }

const markOfRunes = -7

// roomy is a program whose lists have spare room, marked.
func roomy(p api.Program) api.Program {
	p.Insts = withRoom(p.Insts, markOfInsts())
	for i := range p.Insts {
		p.Insts[i].Ranges = withRoom(p.Insts[i].Ranges, markOfRanges())
	}
	return p
}

// marked tells whether the spare room of a program is as roomy made it.
func marked(p api.Program) bool {
	unmarked := func(i api.Inst) bool { return roomOf(i.Ranges) != markOfRanges() }
	return roomOf(p.Insts).Op == -7 && !slices.ContainsFunc(p.Insts, unmarked)
}

// spoil makes other things of a program's lists, in their own memory, spare room too.
func spoil(p api.Program) {
	for _, i := range p.Insts {
		for k := range i.Ranges[:cap(i.Ranges)] {
			i.Ranges[:cap(i.Ranges)][k] = api.Range{Lo: 'x', Hi: 'x'}
		}
	}
	for k := range p.Insts[:cap(p.Insts)] {
		p.Insts[:cap(p.Insts)][k] = fail()
	}
}

// forMemory are patterns of which something is found at once, late, once more, and nothing.
func forMemory() []string {
	return []string{``, `a`, `b`, `a*`, `a*?b`, `(a)|(b)`, `(?:(a)|b)*`, `(a|ab)(c|bcd)(d*)`, `\b(\w+)\b$`, `[^a-c]`, `((a)*)+b`, `aab|(a)`, `[^\x{0}-\x{10FFFF}]|\B`}
}

func textsForMemory() []string { return []string{"", "a", "b", "ab", "aab", "abcd", "--aab", "éa"} }

// TestProgramHandedIn: P14.5, W6: the program that is handed in is neither changed, nor its spare room, nor kept: other things in its lists afterwards change no answer.
func TestProgramHandedIn(t *testing.T) {
	for _, pattern := range forMemory() {
		for _, longest := range []bool{false, true} {
			for _, states := range someLimits() {
				p := ofPattern(t, pattern)
				handed := roomy(p)
				d := made(t, handed, states, longest)
				if !same(handed, p) || !marked(handed) {
					t.Errorf("%q: what was handed in has changed", pattern)
				}
				for _, text := range textsForMemory() {
					for _, q := range questions(runesOf(text), longest) {
						if a, want := asked(t, d, q), model(p, longest, q); a != want {
							t.Errorf("%q, longest %v: %s: %v; want %v", pattern, longest, q, a, want)
						}
					}
					// From the second text on nothing is as it was: some states are made, and many are not yet.
					spoil(handed)
				}
			}
		}
	}
	for _, wrong := range []api.Program{changed(func(p *api.Program) { p.Insts[5].X = 3 }), changed(func(p *api.Program) { p.Caps = 3 })} {
		handed := roomy(wrong)
		wantNone(t, "may not be", handed, 3, api.ErrProg)
		if !same(handed, wrong) || !marked(handed) {
			t.Errorf("what was refused has changed")
		}
	}
}

// TestTextHandedIn: P14.5, W6: the text that is handed in is neither changed, nor its spare room, nor kept: another one in the same list is answered for itself.
func TestTextHandedIn(t *testing.T) {
	for _, pattern := range forMemory() {
		p := ofPattern(t, pattern)
		for _, longest := range []bool{false, true} {
			d := made(t, p, 5, longest)
			memory := make([]int, 10)
			for _, text := range append(textsForMemory(), textsForMemory()...) {
				l := memory[:copy(memory, runesOf(text))]
				memory[len(l)] = markOfRunes
				for _, q := range questions(l, longest) {
					if a, want := asked(t, d, q), model(p, longest, q); a != want {
						t.Errorf("%q, longest %v: %s: %v; want %v", pattern, longest, q, a, want)
					}
					d.End(q.text, -1, 0, true)
				}
				if !slices.Equal(l, runesOf(text)) || roomOf(l) != markOfRunes {
					t.Errorf("%q: what was handed in has changed", pattern)
				}
			}
		}
	}
}

// TestNothingKept: P14.5: an automaton holds on neither to the program nor to a text: their memory is given back while it is still asked.
func TestNothingKept(t *testing.T) {
	var insts weak.Pointer[api.Inst]
	var ranges weak.Pointer[api.Range]
	var runes weak.Pointer[int]
	build := func() *dfa.DFA {
		p := roomy(ofPattern(t, `(?:[a-c]|é)+\b`))
		d := made(t, p, 10, false)
		text := runesOf("--abcé abc--------------------------------------")
		asked(t, d, question{text, 0, len(text), false})
		insts, runes = weak.Make(&p.Insts[0]), weak.Make(&text[0])
		for _, i := range p.Insts {
			if len(i.Ranges) > 0 {
				ranges = weak.Make(&i.Ranges[0])
			}
		}
		return d
	}
	d := build()
	for range 3 {
		runtime.GC()
	}
	if insts.Value() != nil || ranges.Value() != nil || runes.Value() != nil {
		t.Errorf("something is kept: %v %v %v", insts.Value(), ranges.Value(), runes.Value())
	}
	if a := asked(t, d, find("-abc")); a != at(4) {
		t.Errorf("%v", a)
	}
}

// TestEmptyLists: W5: a nil list is as an empty one, within instructions too.
func TestEmptyLists(t *testing.T) {
	for _, pattern := range forMemory() {
		p := ofPattern(t, pattern)
		q := ofPattern(t, pattern)
		for i := range q.Insts {
			q.Insts[i].Ranges = append([]api.Range{}, q.Insts[i].Ranges...)
		}
		for _, longest := range []bool{false, true} {
			want := asked(t, made(t, p, 2, longest), question{anchored: true})
			wantEnd(t, q, longest, question{text: []int{}, anchored: true}, want)
		}
	}
}

// TestAtOneTime: W2: one automaton, asked by many at one time, answers what it answers to each alone; so do many automata that are made at one time of one program.
func TestAtOneTime(t *testing.T) {
	for _, pattern := range forMemory() {
		p := ofPattern(t, pattern)
		for _, longest := range []bool{false, true} {
			var l []question
			var want []answer
			for _, text := range textsForMemory() {
				for _, q := range questions(runesOf(text), longest) {
					l, want = append(l, q), append(want, model(p, longest, q))
				}
			}
			var group sync.WaitGroup
			shared := made(t, p, 3, longest)
			for k := range 6 {
				group.Go(func() {
					own, errno := dfa.New(p, 4, longest)
					if errno != api.OK {
						t.Errorf("%q: %d", pattern, errno)
						return
					}
					for i := range l {
						i = (i + k*17) % len(l)
						for _, d := range []*dfa.DFA{shared, own} {
							end, is, errno := d.End(l[i].text, l[i].at, l[i].last, l[i].anchored)
							if (answer{end, is}) != want[i] || errno != api.OK {
								t.Errorf("%q: %s: %d, %v, %d; want %v", pattern, l[i], end, is, errno, want[i])
							}
						}
					}
				})
			}
			group.Wait()
		}
	}
}
