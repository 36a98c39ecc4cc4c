package pike_test

import (
	"slices"
	"testing"

	"heron/api"
	"heron/look"
)

// The documents' words, slowly: how the chapter says that a program runs, what chapter 9 says that it finds, and which Match can be come to at all.

// modelThread is an instruction and captures.
type modelThread struct {
	inst int
	caps []int
}

// modelRun is what is found, and the steps, as the section 'How it runs' says.
func modelRun(p api.Program, text []int, at int, anchored bool) api.Found {
	f := api.Found{}
	var threads []modelThread
	for j := at; ; j++ {
		all := slices.Clone(threads)
		if j == at || !anchored && !f.Ok {
			all = append(all, modelThread{p.Start, many(p.Caps, -1)})
		}
		threads = modelPlace(p, text, j, all, &f)
		if j == len(text) || len(threads) == 0 && (f.Ok || anchored) {
			return f
		}
	}
}

// modelPlace visits threads at a place, and tells the next row. All that is still to be visited is one list, of which the head is taken off and what it leads to is put ahead.
func modelPlace(p api.Program, text []int, j int, visits []modelThread, f *api.Found) []modelThread {
	met := map[int]bool{}
	var next []modelThread
	for len(visits) > 0 {
		v := visits[0]
		visits = visits[1:]
		if met[v.inst] {
			continue
		}
		met[v.inst] = true
		f.Steps++
		i := p.Insts[v.inst]
		var ahead []modelThread
		switch i.Op {
		case api.OpAlt:
			ahead = []modelThread{{i.X, v.caps}, {i.Y, v.caps}}
		case api.OpNop:
			ahead = []modelThread{{i.X, v.caps}}
		case api.OpCap:
			caps := slices.Clone(v.caps)
			caps[i.Arg] = j
			ahead = []modelThread{{i.X, caps}}
		case api.OpAssert:
			if look.At(text, j)&i.Arg != 0 {
				ahead = []modelThread{{i.X, v.caps}}
			}
		case api.OpRune:
			if j < len(text) && inRanges(i.Ranges, text[j]) {
				next = append(next, modelThread{i.X, v.caps})
			}
		case api.OpMatch:
			f.Ok, f.Which, f.Caps = true, i.Arg, v.caps
			return next
		}
		visits = append(ahead, visits...)
	}
	return next
}

func inRanges(l []api.Range, r int) bool {
	return slices.ContainsFunc(l, func(g api.Range) bool { return g.Lo <= r && r <= g.Hi })
}

// pair is an instruction at a place.
type pair struct{ inst, place int }

// walker goes through a program depth first.
type walker struct {
	p    api.Program
	text []int
	met  map[pair]bool
}

// findFrom is what a program finds from a place (chapter 9).
func findFrom(p api.Program, text []int, at int) api.Found {
	w := &walker{p, text, map[pair]bool{}}
	return w.from(p.Start, at, many(p.Caps, -1))
}

func (w *walker) from(inst, at int, caps []int) api.Found {
	if w.met[pair{inst, at}] {
		return api.Found{}
	}
	w.met[pair{inst, at}] = true
	i := w.p.Insts[inst]
	switch i.Op {
	case api.OpRune:
		if at < len(w.text) && inRanges(i.Ranges, w.text[at]) {
			return w.from(i.X, at+1, caps)
		}
	case api.OpAlt:
		if f := w.from(i.X, at, caps); f.Ok {
			return f
		}
		return w.from(i.Y, at, caps)
	case api.OpCap:
		caps = slices.Clone(caps)
		caps[i.Arg] = at
		return w.from(i.X, at, caps)
	case api.OpAssert:
		if look.At(w.text, at)&i.Arg != 0 {
			return w.from(i.X, at, caps)
		}
	case api.OpMatch:
		return found(0, i.Arg, caps...)
	case api.OpNop:
		return w.from(i.X, at, caps)
	}
	return api.Found{}
}

// theFind is THE FIND of a program from a place on (chapter 9), without steps.
func theFind(p api.Program, text []int, at int, anchored bool) api.Found {
	for i := at; i <= len(text); i++ {
		if f := findFrom(p, text, i); f.Ok || anchored {
			return f
		}
	}
	return api.Found{}
}

// comesToMatch tells whether an OpMatch can be come to at all, from the place at, or, not anchored, from a later one: all pairs that are led to are gathered, in no order of their own.
func comesToMatch(p api.Program, text []int, at int, anchored bool) bool {
	todo, met := []pair{{p.Start, at}}, map[pair]bool{}
	for i := at + 1; i <= len(text) && !anchored; i++ {
		todo = append(todo, pair{p.Start, i})
	}
	for len(todo) > 0 {
		x := todo[len(todo)-1]
		todo = todo[:len(todo)-1]
		if met[x] {
			continue
		}
		met[x] = true
		switch i := p.Insts[x.inst]; {
		case i.Op == api.OpMatch:
			return true
		case i.Op == api.OpRune && x.place < len(text) && inRanges(i.Ranges, text[x.place]):
			todo = append(todo, pair{i.X, x.place + 1})
		case i.Op == api.OpAlt:
			todo = append(todo, pair{i.Y, x.place}, pair{i.X, x.place})
		case i.Op == api.OpCap, i.Op == api.OpNop, i.Op == api.OpAssert && look.At(text, x.place)&i.Arg != 0:
			todo = append(todo, pair{i.X, x.place})
		}
	}
	return false
}

// wantAll fails, if a program does not do in a text, from each place, anchored and not, what P11.1 and P11.3 to P11.6 say; else it tells how many searches found anything.
func wantAll(t *testing.T, p api.Program, text []int) int {
	t.Helper()
	finds := 0
	for at := range len(text) + 1 {
		for _, anchored := range []bool{false, true} {
			f := ran(t, p, text, at, anchored)
			what := shown(p, text, at, anchored)
			if want := modelRun(p, text, at, anchored); !sameFound(f, want) {
				t.Errorf("P11.1: %s: %+v; want %+v", what, f, want)
			}
			if want := theFind(p, text, at, anchored); !sameFind(f, want) {
				t.Errorf("P11.3: %s: %+v; want %+v", what, f, want)
			}
			if f.Steps < 1 || f.Steps > len(p.Insts)*(len(text)-at+1) {
				t.Errorf("P11.4: %s: %d steps", what, f.Steps)
			}
			if f.Ok != comesToMatch(p, text, at, anchored) {
				t.Errorf("P11.6: %s: %+v", what, f)
			}
			if f.Ok {
				finds++
			}
		}
		wantOneBegin(t, p, text, at)
	}
	return finds
}

// wantOneBegin fails, if a search that is not anchored does not find what the anchored one finds at the least place at which that finds anything (P11.5).
func wantOneBegin(t *testing.T, p api.Program, text []int, at int) {
	t.Helper()
	want := api.Found{}
	for i := at; i <= len(text) && !want.Ok; i++ {
		want = ran(t, p, text, i, true)
	}
	if f := ran(t, p, text, at, false); !sameFind(f, want) {
		t.Errorf("P11.5: %s: %+v; want %+v", shown(p, text, at, false), f, want)
	}
}

// TestModel: the model says of the chapter's examples what the chapter says.
func TestModel(t *testing.T) {
	for _, x := range examples(t) {
		if f := modelRun(x.p, x.text, x.at, x.anchored); !sameFound(f, x.want) {
			t.Errorf("%s: the model has %+v; want %+v", shown(x.p, x.text, x.at, x.anchored), f, x.want)
		}
		if f := theFind(x.p, x.text, x.at, x.anchored); !sameFind(f, x.want) {
			t.Errorf("%s: the walker finds %+v; want %+v", shown(x.p, x.text, x.at, x.anchored), f, x.want)
		}
		if comesToMatch(x.p, x.text, x.at, x.anchored) != x.want.Ok {
			t.Errorf("%s: comes to another end", shown(x.p, x.text, x.at, x.anchored))
		}
	}
}
