package dfa_test

import (
	"slices"
	"testing"

	"heron/api"
	"heron/bitstate"
	"heron/look"
	"heron/pike"
)

// The documents' words, slowly: the walks that count, the first one of them, and the places at which they come to a Match.

// pair is an instruction at a place.
type pair struct{ inst, place int }

// walker goes through a program depth first, as chapter 9 says, by walks that count.
type walker struct {
	p   api.Program
	q   question
	met map[pair]bool
}

// first is the end of the first walk from a place that comes to a Match.
func (w *walker) first(inst, place int) answer {
	if w.met[pair{inst, place}] {
		return never()
	}
	w.met[pair{inst, place}] = true
	i := w.p.Insts[inst]
	switch i.Op {
	case api.OpMatch:
		return at(place)
	case api.OpRune:
		if w.taken(i, place) {
			return w.first(i.X, place+1)
		}
	case api.OpAlt:
		if a := w.first(i.X, place); a.is {
			return a
		}
		return w.first(i.Y, place)
	case api.OpAssert:
		if look.At(w.q.text, place)&i.Arg != 0 {
			return w.first(i.X, place)
		}
	case api.OpCap, api.OpNop:
		return w.first(i.X, place)
	}
	return never()
}

// taken tells whether the rune at a place may be taken, and is.
func (w *walker) taken(i api.Inst, place int) bool {
	return place < w.q.last && slices.ContainsFunc(i.Ranges, func(g api.Range) bool { return g.Lo <= w.q.text[place] && w.q.text[place] <= g.Hi })
}

// farthest is the greatest place at which a walk from a place comes to a Match: all pairs that are led to are gathered, in no order of their own.
func (w *walker) farthest(inst, place int) answer {
	a, todo := never(), []pair{{inst, place}}
	for len(todo) > 0 {
		x := todo[len(todo)-1]
		todo = todo[:len(todo)-1]
		if w.met[x] {
			continue
		}
		w.met[x] = true
		switch i := w.p.Insts[x.inst]; {
		case i.Op == api.OpMatch:
			a = at(max(a.end, x.place))
		case i.Op == api.OpRune && w.taken(i, x.place):
			todo = append(todo, pair{i.X, x.place + 1})
		case i.Op == api.OpAlt:
			todo = append(todo, pair{i.X, x.place}, pair{i.Y, x.place})
		case i.Op == api.OpCap, i.Op == api.OpNop, i.Op == api.OpAssert && look.At(w.q.text, x.place)&i.Arg != 0:
			todo = append(todo, pair{i.X, x.place})
		}
	}
	return a
}

// model is what End is to answer (P14.2, P14.3).
func model(p api.Program, longest bool, q question) answer {
	if longest {
		w := &walker{p, q, map[pair]bool{}}
		return w.farthest(p.Start, q.at)
	}
	for i := q.at; i <= q.last; i++ {
		w := &walker{p, q, map[pair]bool{}}
		if a := w.first(p.Start, i); a.is || q.anchored {
			return a
		}
	}
	return never()
}

// questions are all that can be asked of a text, without those that longest refuses.
func questions(text []int, longest bool) []question {
	var l []question
	for at := range len(text) + 1 {
		for last := at; last <= len(text); last++ {
			l = append(l, question{text, at, last, true})
			if !longest {
				l = append(l, question{text, at, last, false})
			}
		}
	}
	return l
}

// wantAll fails, if automata of a program, of few states and of many, do not answer all that can be asked of a text as P14.2 to P14.4 and P14.6 say, in one order and in the other one; else it tells how many questions found anything.
func wantAll(t *testing.T, p api.Program, text []int) int {
	t.Helper()
	finds := 0
	for _, longest := range []bool{false, true} {
		l := questions(text, longest)
		var want []answer
		for _, q := range l {
			a := model(p, longest, q)
			want = append(want, a)
			if a.is {
				finds++
			}
		}
		for _, states := range []int{2, 4, api.MaxStates} {
			d := made(t, p, states, longest)
			for k := range 2 * len(l) {
				i := k
				if k >= len(l) {
					i = 2*len(l) - 1 - k
				}
				if a := asked(t, d, l[i]); a != want[i] {
					t.Errorf("%s; longest %v, %d states, asked %d times: %s: %v; want %v", shownProgram(p), longest, states, k, l[i], a, want[i])
				}
			}
		}
	}
	wantTheFind(t, p, text)
	return finds
}

// withEnds is a program that notes the end of what it finds as the capture 1, whatever it noted ahead.
func withEnds(p api.Program) api.Program {
	p.Insts = slices.Clone(p.Insts)
	for n, i := range p.Insts {
		if i.Op == api.OpMatch {
			p.Insts[n] = note(1, len(p.Insts))
			p.Insts = append(p.Insts, i)
		}
	}
	return p
}

// wantTheFind fails, if, with last the text's length, End is not the end of what pike and bitstate find (P14.6).
func wantTheFind(t *testing.T, p api.Program, text []int) {
	t.Helper()
	d, ends := made(t, p, 5, false), withEnds(p)
	for place := range len(text) + 1 {
		for _, anchored := range []bool{false, true} {
			q := question{text, place, len(text), anchored}
			a := asked(t, d, q)
			byPike, errno := pike.Run(ends, text, place, anchored)
			if errno != api.OK || a != endOf(byPike) {
				t.Errorf("P14.6: %s: %s: %v; pike finds %+v, %d", shownProgram(p), q, a, byPike, errno)
			}
			byBitstate, errno := bitstate.Run(ends, text, place, anchored)
			if errno != api.OK || a != endOf(byBitstate) {
				t.Errorf("P14.6: %s: %s: %v; bitstate finds %+v, %d", shownProgram(p), q, a, byBitstate, errno)
			}
		}
	}
}

// endOf is the end of what was found.
func endOf(f api.Found) answer {
	if !f.Ok {
		return never()
	}
	return at(f.Caps[1])
}

// TestModel: the model says of the chapter's examples what the chapter says.
func TestModel(t *testing.T) {
	for _, x := range examples() {
		p := ofPattern(t, x.pattern)
		if a := model(p, false, x.q); a != x.first {
			t.Errorf("%q: %s: the model has %v; want %v", x.pattern, x.q, a, x.first)
		}
		q := x.q
		q.anchored = true
		if a := model(p, true, q); a != x.longest {
			t.Errorf("%q, longest: %s: the model has %v; want %v", x.pattern, q, a, x.longest)
		}
	}
}
