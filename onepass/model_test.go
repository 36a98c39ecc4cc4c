package onepass_test

import (
	"slices"
	"testing"

	"heron/api"
	"heron/look"
	"heron/onepass"
	"heron/pike"
	"heron/prog"
)

// The chapter's words, slowly: what is in a closure, which one is plain, what is reached, and how a program runs.

// nexts are where one comes to from an instruction without reading a rune.
func nexts(i api.Inst) []int {
	switch i.Op {
	case api.OpAlt:
		return []int{i.X, i.Y}
	case api.OpCap, api.OpAssert, api.OpNop:
		return []int{i.X}
	}
	return nil
}

// closureOf is what is in the closure of an instruction, in its order, and whether one comes to something twice (what is behind that is not gone through once more).
func closureOf(p api.Program, inst int) ([]int, bool) {
	var l []int
	twice := false
	for visits := []int{inst}; len(visits) > 0; {
		k := visits[0]
		visits = visits[1:]
		if slices.Contains(l, k) {
			twice = true
			continue
		}
		l = append(l, k)
		visits = append(nexts(p.Insts[k]), visits...)
	}
	return l, twice
}

// modelPlain tells whether the closure of an instruction is plain.
func modelPlain(p api.Program, inst int) bool {
	l, twice := closureOf(p, inst)
	matches := 0
	for n, a := range l {
		if p.Insts[a].Op == api.OpMatch {
			matches++
		}
		for _, b := range l[:n] {
			if haveCommon(p.Insts[a].Ranges, p.Insts[b].Ranges) {
				return false
			}
		}
	}
	return !twice && matches <= 1
}

// haveCommon tells whether a rune is in ranges of both.
func haveCommon(a, b []api.Range) bool {
	for _, g := range a {
		for _, h := range b {
			if max(g.Lo, h.Lo) <= min(g.Hi, h.Hi) {
				return true
			}
		}
	}
	return false
}

// reachedOf are the reached instructions, in no order of their own.
func reachedOf(p api.Program) []int {
	l := []int{p.Start}
	for n := 0; n < len(l); n++ {
		closure, _ := closureOf(p, l[n])
		for _, k := range closure {
			if x := p.Insts[k].X; p.Insts[k].Op == api.OpRune && !slices.Contains(l, x) {
				l = append(l, x)
			}
		}
	}
	return l
}

// modelIs is what Is is to answer.
func modelIs(p api.Program) bool {
	if prog.Check(p) != api.OK {
		return false
	}
	return !slices.ContainsFunc(reachedOf(p), func(inst int) bool { return !modelPlain(p, inst) })
}

// modelRun is what Run is to answer of a program that has one way, and the steps of each place.
func modelRun(p api.Program, text []int, at int) (api.Found, []int) {
	m := &model{p: p, text: text}
	inst, caps := p.Start, many(p.Caps, -1)
	var steps []int
	for j := at; inst >= 0; j++ {
		inst, caps = m.place(j, inst, caps)
		steps = append(steps, m.steps)
		m.f.Steps += m.steps
	}
	return m.f, steps
}

// model is a run as P13.2 tells it.
type model struct {
	p     api.Program
	text  []int
	f     api.Found
	steps int
}

// visit is what is still to be come to at a place.
type visit struct {
	inst int
	caps []int
}

// place goes through the closure of an instruction at a place, and tells what the thread is handed to (-1: nothing), and its captures.
func (m *model) place(j, inst int, caps []int) (int, []int) {
	next, nextCaps := -1, []int(nil)
	m.steps = 0
	for visits := []visit{{inst, caps}}; len(visits) > 0; {
		v := visits[0]
		visits = visits[1:]
		m.steps++
		i := m.p.Insts[v.inst]
		switch {
		case i.Op == api.OpMatch:
			m.f.Ok, m.f.Which, m.f.Caps = true, i.Arg, v.caps
			return next, nextCaps
		case i.Op == api.OpRune && j < len(m.text) && inRanges(i.Ranges, m.text[j]):
			next, nextCaps = i.X, v.caps
		case i.Op == api.OpAssert && look.At(m.text, j)&i.Arg == 0:
			continue
		case i.Op == api.OpCap:
			v.caps = slices.Clone(v.caps)
			v.caps[i.Arg] = j
		}
		var ahead []visit
		for _, k := range nexts(i) {
			ahead = append(ahead, visit{k, v.caps})
		}
		visits = append(ahead, visits...)
	}
	return next, nextCaps
}

func inRanges(l []api.Range, r int) bool {
	return slices.ContainsFunc(l, func(g api.Range) bool { return g.Lo <= r && r <= g.Hi })
}

// wantAll fails, if a program that may be does not do in a text, from each place, what P13.1, P13.2, P13.4 and P13.5 say; else it tells whether it has one way, and how many runs found anything.
func wantAll(t *testing.T, p api.Program, text []int) (bool, int) {
	t.Helper()
	is := modelIs(p)
	wantIs(t, p, is)
	finds := 0
	for at := range len(text) + 1 {
		if !is {
			wantRefused(t, "more than one way", p, text, at, api.ErrOnepass)
			continue
		}
		f, errno := onepass.Run(p, text, at)
		what := shown(p, text, at)
		want, steps := modelRun(p, text, at)
		if errno != api.OK || !sameFound(f, want) {
			t.Errorf("P13.2: %s: %+v, %d; want %+v", what, f, errno, want)
		}
		if want, errno := pike.Run(p, text, at, true); errno != api.OK || !sameFound(f, want) {
			t.Errorf("P13.4: %s: %+v; pike has %+v, %d", what, f, want, errno)
		}
		if f.Steps < len(steps) || slices.Max(steps) > len(p.Insts) || f.Steps > len(p.Insts)*len(steps) {
			t.Errorf("P13.5: %s: %d steps, by places %v", what, f.Steps, steps)
		}
		if f.Ok {
			finds++
		}
	}
	return is, finds
}

// wantFewSteps fails, if a place takes more steps than there are instructions (P13.5), of a program that has one way and asserts nothing: so a text that ends earlier has the same steps up to there.
func wantFewSteps(t *testing.T, p api.Program, text []int, at int) {
	t.Helper()
	before := 0
	for end := at; end <= len(text); end++ {
		f := ran(t, p, text[:end], at)
		if f.Steps < before || f.Steps-before > len(p.Insts) {
			t.Errorf("P13.5: %s: %d steps up to the place %d, ahead of it %d", shown(p, text, at), f.Steps, end, before)
		}
		before = f.Steps
	}
}

// TestModel: the model says of the chapter's examples what the chapter says.
func TestModel(t *testing.T) {
	for _, x := range examplesOfIs(t) {
		if is := modelIs(x.p); is != x.want {
			t.Errorf("%s: the model has %v", shownProgram(x.p), is)
		}
	}
	for _, x := range examples(t) {
		if f, _ := modelRun(x.p, x.text, x.at); !sameFound(f, x.want) {
			t.Errorf("%s: the model has %+v; want %+v", shown(x.p, x.text, x.at), f, x.want)
		}
	}
	p := ofPattern(t, `a*b`)
	if l, twice := closureOf(p, 3); twice || !slices.Equal(l, []int{3, 1, 2, 4}) {
		t.Errorf("%v, %v", l, twice)
	}
	if l := reachedOf(p); !slices.Equal(l, []int{0, 3, 5}) {
		t.Errorf("%v", l)
	}
	if _, steps := modelRun(p, runesOf("aab"), 0); !slices.Equal(steps, []int{4, 4, 4, 2}) {
		t.Errorf("%v", steps)
	}
}
