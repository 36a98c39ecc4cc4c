package many_test

import (
	"slices"
	"testing"
	"unicode/utf8"

	"heron/api"
	"heron/look"
	"heron/meaning"
	"heron/regex"
)

// The chapter's words, slowly, in three ways: by what each pattern tells alone, by what the trees mean, and by the program of all of them side by side.

// cut are the runes of bytes, and the offsets of their places.
func cut(b []byte) ([]int, []int) {
	var text []int
	places := []int{0}
	for at := 0; at < len(b); {
		r, size := utf8.DecodeRune(b[at:])
		at += size
		text, places = append(text, int(r)), append(places, at)
	}
	return text, places
}

// offsetsOf are captures as offsets.
func offsetsOf(caps, places []int) []int {
	var l []int
	for _, place := range caps {
		if place >= 0 {
			place = places[place]
		}
		l = append(l, place)
	}
	return l
}

// leastOf is what a set tells, of the captures of each pattern, which are none where it does not fit.
func leastOf(l [][]int) told {
	x := none()
	for which, caps := range l {
		if len(caps) == 0 {
			continue
		}
		x.all = append(x.all, which)
		if x.which < 0 || caps[0] < x.caps[0] {
			x.which, x.caps = which, caps
		}
	}
	return x
}

// modelOfEach is what a set tells by P18.2 and P18.3, of Regexes.
func modelOfEach(t testing.TB, l []*regex.Regex, b []byte) told {
	t.Helper()
	var all [][]int
	for _, r := range l {
		caps, errno := r.Submatch(b)
		fits, other := r.Match(b)
		if errno != api.OK || other != api.OK || fits != (len(caps) > 0) {
			t.Fatalf("%.100q in %s: %v, %d; %v, %d", r.Pattern(), shown(b), caps, errno, fits, other)
		}
		all = append(all, caps)
	}
	return leastOf(all)
}

// modelOfTrees is what it tells by what the trees mean (chapter 6); false: that is not told, of one of them or of this text.
func modelOfTrees(t testing.TB, l []string, b []byte) (told, bool) {
	t.Helper()
	text, places := cut(b)
	all := make([][]int, len(l))
	for which, pattern := range l {
		tree := treeOf(t, pattern)
		for at := 0; at <= len(text) && all[which] == nil; at++ {
			parses, errno := meaning.Parses(tree, text, at)
			if errno != api.OK {
				return told{}, false
			}
			if len(parses) > 0 {
				all[which] = offsetsOf(parses[0].Caps, places)
			}
		}
	}
	return leastOf(all), true
}

// walk is a program on its way through a text from a place, as chapter 9 has it.
type walk struct {
	p    api.Program
	text []int
	met  map[[2]int]struct{}
}

// from is what is found from an instruction at a place on, with captures that were noted ahead: the Arg and the captures; -1: nothing.
func (w *walk) from(inst, place int, caps []int) (int, []int) {
	if _, is := w.met[[2]int{inst, place}]; is {
		return -1, nil
	}
	w.met[[2]int{inst, place}] = struct{}{}
	i := w.p.Insts[inst]
	switch i.Op {
	case api.OpMatch:
		return i.Arg, caps
	case api.OpAlt:
		if which, found := w.from(i.X, place, caps); which >= 0 {
			return which, found
		}
		return w.from(i.Y, place, caps)
	case api.OpNop:
		return w.from(i.X, place, caps)
	case api.OpCap:
		caps = slices.Clone(caps)
		caps[i.Arg] = place
		return w.from(i.X, place, caps)
	case api.OpAssert:
		if look.Holds(i.Arg, look.At(w.text, place)) {
			return w.from(i.X, place, caps)
		}
	case api.OpRune:
		if place < len(w.text) && slices.ContainsFunc(i.Ranges, func(g api.Range) bool { return g.Lo <= w.text[place] && w.text[place] <= g.Hi }) {
			return w.from(i.X, place+1, caps)
		}
	}
	return -1, nil
}

// modelOfJoin is First by P18.5: the find of the program of all patterns side by side, and as many of its captures as the pattern has.
func modelOfJoin(t testing.TB, l []string, b []byte) (int, []int) {
	t.Helper()
	text, places := cut(b)
	p := joined(t, l)
	for at := range len(text) + 1 {
		w := walk{p, text, map[[2]int]struct{}{}}
		if which, caps := w.from(p.Start, at, slices.Repeat([]int{-1}, p.Caps)); which >= 0 {
			return which, offsetsOf(caps[:programOf(t, l[which]).Caps], places)
		}
	}
	return -1, nil
}

// wantModels fails, if a set does not tell of bytes what the models do, or what P18.6 says does not hold; it tells what was told.
func wantModels(t testing.TB, l []string, b []byte) told {
	t.Helper()
	got := asked(t, made(t, l...), b)
	if want := modelOfEach(t, regexesOf(t, l), b); !got.same(want) {
		t.Errorf("%s in %s: %v; each alone: %v", shownSet(l), shown(b), got, want)
	}
	if want, is := modelOfTrees(t, l, b); is && !got.same(want) {
		t.Errorf("%s in %s: %v; the trees mean: %v", shownSet(l), shown(b), got, want)
	}
	if which, caps := modelOfJoin(t, l, b); which != got.which || !slices.Equal(caps, got.caps) {
		t.Errorf("%s in %s: %v; side by side: %d, %v", shownSet(l), shown(b), got, which, caps)
	}
	wantBoth(t, l, b, got)
	return got
}

// wantBoth fails, if what Matches and First tell does not go together (P18.6), or the numbers do not rise (P18.2).
func wantBoth(t testing.TB, l []string, b []byte, x told) {
	t.Helper()
	if (x.which == -1) != (len(x.all) == 0) || x.which != -1 && !slices.Contains(x.all, x.which) || (len(x.caps) == 0) != (x.which == -1) {
		t.Errorf("%s in %s: %v: the two do not go together", shownSet(l), shown(b), x)
	}
	last := -1
	for _, which := range x.all {
		if which <= last || which >= len(l) {
			t.Errorf("%s in %s: %v: the numbers do not rise", shownSet(l), shown(b), x)
		}
		last = which
	}
}

// TestModels: the models say of the chapter's examples what the chapter says.
func TestModels(t *testing.T) {
	for _, x := range examples() {
		b := []byte(x.text)
		if got := modelOfEach(t, regexesOf(t, x.l), b); !got.same(x.want) {
			t.Errorf("%q in %q: each alone: %v; want %v", x.l, x.text, got, x.want)
		}
		if got, is := modelOfTrees(t, x.l, b); !is || !got.same(x.want) {
			t.Errorf("%q in %q: the trees mean: %v, %v; want %v", x.l, x.text, got, is, x.want)
		}
		if which, caps := modelOfJoin(t, x.l, b); which != x.want.which || !slices.Equal(caps, x.want.caps) {
			t.Errorf("%q in %q: side by side: %d, %v; want %v", x.l, x.text, which, caps, x.want)
		}
	}
}
