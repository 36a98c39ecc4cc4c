package bitstate_test

import (
	"slices"
	"testing"

	"heron/api"
	"heron/look"
	"heron/pike"
)

// The documents' words, slowly: how the chapter says that a program runs, what chapter 9 says that it finds, and which pairs can be come to at all.

// pair is an instruction at a place.
type pair struct{ inst, place int }

// model is a run as the section 'The run' says, each meeting a call.
type model struct {
	p     api.Program
	text  []int
	caps  []int
	met   map[pair]bool
	which int
}

// modelRun is what is found, and the steps.
func modelRun(p api.Program, text []int, at int, anchored bool) api.Found {
	m := &model{p: p, text: text, met: map[pair]bool{}}
	for b := at; b <= len(text); b++ {
		m.caps = many(p.Caps, -1)
		if m.meet(p.Start, b) {
			return found(len(m.met), m.which, m.caps...)
		}
		if anchored {
			break
		}
	}
	return nothing(len(m.met))
}

// meet tells whether a Match was met.
func (m *model) meet(k, i int) bool {
	if m.met[pair{k, i}] {
		return false
	}
	m.met[pair{k, i}] = true
	switch inst := m.p.Insts[k]; inst.Op {
	case api.OpRune:
		return i < len(m.text) && inRanges(inst.Ranges, m.text[i]) && m.meet(inst.X, i+1)
	case api.OpAlt:
		return m.meet(inst.X, i) || m.meet(inst.Y, i)
	case api.OpCap:
		was := m.caps[inst.Arg]
		m.caps[inst.Arg] = i
		if m.meet(inst.X, i) {
			return true
		}
		m.caps[inst.Arg] = was
	case api.OpAssert:
		return look.At(m.text, i)&inst.Arg != 0 && m.meet(inst.X, i)
	case api.OpNop:
		return m.meet(inst.X, i)
	case api.OpMatch:
		m.which = inst.Arg
		return true
	}
	return false
}

func inRanges(l []api.Range, r int) bool {
	return slices.ContainsFunc(l, func(g api.Range) bool { return g.Lo <= r && r <= g.Hi })
}

// walker goes through a program depth first, from one place alone, with captures that are each way's own.
type walker struct {
	p    api.Program
	text []int
	met  map[pair]bool
}

// findFrom is what a program finds from a place (chapter 9).
func findFrom(p api.Program, text []int, at int) api.Found {
	w := &walker{p, text, map[pair]bool{}}
	return w.from(p.Start, at, many(p.Caps, -1))
}

func (w *walker) from(inst, at int, caps []int) api.Found {
	if w.met[pair{inst, at}] {
		return api.Found{}
	}
	w.met[pair{inst, at}] = true
	i := w.p.Insts[inst]
	switch i.Op {
	case api.OpAlt:
		if f := w.from(i.X, at, caps); f.Ok {
			return f
		}
		return w.from(i.Y, at, caps)
	case api.OpCap:
		caps = slices.Clone(caps)
		caps[i.Arg] = at
		return w.from(i.X, at, caps)
	case api.OpMatch:
		return found(0, i.Arg, caps...)
	}
	for _, x := range leadsTo(w.p, w.text, pair{inst, at}) {
		return w.from(x.inst, x.place, caps)
	}
	return api.Found{}
}

// theFind is THE FIND of a program from a place on (chapter 9), without steps.
func theFind(p api.Program, text []int, at int, anchored bool) api.Found {
	for i := at; i <= len(text); i++ {
		if f := findFrom(p, text, i); f.Ok || anchored {
			return f
		}
	}
	return api.Found{}
}

// leadsTo are the pairs to which one leads.
func leadsTo(p api.Program, text []int, x pair) []pair {
	switch i := p.Insts[x.inst]; {
	case i.Op == api.OpRune && x.place < len(text) && inRanges(i.Ranges, text[x.place]):
		return []pair{{i.X, x.place + 1}}
	case i.Op == api.OpAlt:
		return []pair{{i.Y, x.place}, {i.X, x.place}}
	case i.Op == api.OpCap, i.Op == api.OpNop, i.Op == api.OpAssert && look.At(text, x.place)&i.Arg != 0:
		return []pair{{i.X, x.place}}
	}
	return nil
}

// comesTo tells how many pairs can be come to at all, from the place at, or, not anchored, from a later one too, and whether an OpMatch is among them: they are gathered in no order of their own.
func comesTo(p api.Program, text []int, at int, anchored bool) (int, bool) {
	todo, met, isMatch := []pair{{p.Start, at}}, map[pair]bool{}, false
	for i := at + 1; i <= len(text) && !anchored; i++ {
		todo = append(todo, pair{p.Start, i})
	}
	for len(todo) > 0 {
		x := todo[len(todo)-1]
		todo = todo[:len(todo)-1]
		if met[x] {
			continue
		}
		met[x] = true
		isMatch = isMatch || p.Insts[x.inst].Op == api.OpMatch
		todo = append(todo, leadsTo(p, text, x)...)
	}
	return len(met), isMatch
}

// wantAll fails, if a program does not do in a text, from each place, anchored and not, what P12.1 and P12.3 to P12.5 say; else it tells how many searches found anything.
func wantAll(t *testing.T, p api.Program, text []int) int {
	t.Helper()
	finds := 0
	for at := range len(text) + 1 {
		for _, anchored := range []bool{false, true} {
			f := ran(t, p, text, at, anchored)
			what := shown(p, text, at, anchored)
			if want := modelRun(p, text, at, anchored); !sameFound(f, want) {
				t.Errorf("P12.1: %s: %+v; want %+v", what, f, want)
			}
			if want := theFind(p, text, at, anchored); !sameFind(f, want) {
				t.Errorf("P12.3: %s: %+v; want %+v", what, f, want)
			}
			if want, errno := pike.Run(p, text, at, anchored); errno != api.OK || !sameFind(f, want) {
				t.Errorf("T6: %s: %+v; pike has %+v, %d", what, f, want, errno)
			}
			wantSteps(t, p, text, at, anchored, f)
			if f.Ok {
				finds++
			}
		}
		wantBegin(t, p, text, at)
	}
	return finds
}

// wantSteps fails, if a search has taken more or fewer steps than it may (P12.4): in vain it has met all that it can come to.
func wantSteps(t *testing.T, p api.Program, text []int, at int, anchored bool, f api.Found) {
	t.Helper()
	pairs, isMatch := comesTo(p, text, at, anchored)
	if f.Ok != isMatch || f.Steps > pairs || !f.Ok && f.Steps < pairs {
		t.Errorf("P12.1: %s: %+v; %d can be come to, a Match %v", shown(p, text, at, anchored), f, pairs, isMatch)
	}
	if f.Steps < 1 || f.Steps > len(p.Insts)*(len(text)-at+1) {
		t.Errorf("P12.4: %s: %d steps", shown(p, text, at, anchored), f.Steps)
	}
	if free := ran(t, p, text, at, false); f.Steps > free.Steps {
		t.Errorf("P12.4: %s: %d steps; not anchored %d", shown(p, text, at, anchored), f.Steps, free.Steps)
	}
}

// wantBegin fails, if a search that is not anchored does not find what the anchored one finds at the least place at which that finds anything (P12.5).
func wantBegin(t *testing.T, p api.Program, text []int, at int) {
	t.Helper()
	want := api.Found{}
	for i := at; i <= len(text) && !want.Ok; i++ {
		want = ran(t, p, text, i, true)
	}
	if f := ran(t, p, text, at, false); !sameFind(f, want) {
		t.Errorf("P12.5: %s: %+v; want %+v", shown(p, text, at, false), f, want)
	}
}

// TestModel: the model says of the chapter's examples what the chapter says.
func TestModel(t *testing.T) {
	for _, x := range examples(t) {
		what := shown(x.p, x.text, x.at, x.anchored)
		if f := modelRun(x.p, x.text, x.at, x.anchored); !sameFound(f, x.want) {
			t.Errorf("%s: the model has %+v; want %+v", what, f, x.want)
		}
		if f := theFind(x.p, x.text, x.at, x.anchored); !sameFind(f, x.want) {
			t.Errorf("%s: the walker finds %+v; want %+v", what, f, x.want)
		}
		if pairs, isMatch := comesTo(x.p, x.text, x.at, x.anchored); isMatch != x.want.Ok || pairs < x.want.Steps {
			t.Errorf("%s: comes to %d, a Match %v", what, pairs, isMatch)
		}
	}
}
