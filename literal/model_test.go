package literal_test

import (
	"slices"
	"testing"

	"heron/api"
	"heron/literal"
	"heron/prog"
)

// The chapter's words, slowly: the row of a program, and where a row stands.

// modelRow is the row of a program, and whether it is the whole: all instructions that came are kept in a list.
func modelRow(p api.Program) ([]int, bool) {
	if prog.Check(p) != api.OK {
		return nil, false
	}
	var row, came []int
	for inst := p.Start; !slices.Contains(came, inst); inst = p.Insts[inst].X {
		came = append(came, inst)
		switch i := p.Insts[inst]; i.Op {
		case api.OpNop, api.OpCap:
		case api.OpRune:
			if len(i.Ranges) != 1 || i.Ranges[0].Lo != i.Ranges[0].Hi {
				return row, false
			}
			row = append(row, i.Ranges[0].Hi)
		case api.OpMatch:
			return row, true
		default:
			return row, false
		}
	}
	return row, false
}

// standsAt tells whether a row stands in a text at a place of it.
func standsAt(lit, text []int, i int) bool {
	return len(text)-i >= len(lit) && slices.Equal(text[i:i+len(lit)], lit)
}

// placesOf are all places at which it does, rising.
func placesOf(lit, text []int) []int {
	var l []int
	for i := range len(text) + 1 {
		if standsAt(lit, text, i) {
			l = append(l, i)
		}
	}
	return l
}

// modelNext is the least of them from a place on, -1 if there is none.
func modelNext(lit, text []int, at int) int {
	if at < 0 || at > len(text) {
		return -1
	}
	for _, i := range placesOf(lit, text) {
		if i >= at {
			return i
		}
	}
	return -1
}

// wantNexts fails, if a finder of a row does not answer in a text what P15.3 says, from each place, one below and one above (which is asked last, and first), and what P15.6 says; else it tells at how many places the row stands.
func wantNexts(t *testing.T, f *literal.Finder, lit, text []int) int {
	t.Helper()
	places := placesOf(lit, text)
	want := -1
	if place := f.Next(text, len(text)+1); place != -1 {
		t.Errorf("P15.3: %s in %s from one above: %d", shown(lit), shown(text), place)
	}
	for at := len(text); at >= 0; at-- {
		if _, is := slices.BinarySearch(places, at); is {
			want = at
		}
		if place := f.Next(text, at); place != want {
			t.Errorf("P15.3: %s in %s from %d: %d; want %d", shown(lit), shown(text), at, place, want)
		}
	}
	if place := f.Next(text, -1); place != -1 {
		t.Errorf("P15.3: %s in %s from one below: %d", shown(lit), shown(text), place)
	}
	if told := toldPlaces(f, text); !slices.Equal(told, places) {
		t.Errorf("P15.6: %s in %s: %v; want %v", shown(lit), shown(text), told, places)
	}
	return len(places)
}

// toldPlaces are what a finder tells, asked again and again, from one place behind what it told on; no more of them than the text has places, and one.
func toldPlaces(f *literal.Finder, text []int) []int {
	var l []int
	for at := f.Next(text, 0); at >= 0 && len(l) < len(text)+2; at = f.Next(text, at+1) {
		l = append(l, at)
	}
	return l
}

// wantProgram fails, if a program that may be does not do what P15.1 says, or, in a text, what P15.5 says; else it tells how many runes its row has, whether it is the whole, and from how many places something is found.
func wantProgram(t *testing.T, p api.Program, text []int) (int, bool, int) {
	t.Helper()
	want, wantWhole := modelRow(p)
	wantPrefix(t, p, want, wantWhole)
	row, whole := literal.Prefix(p)
	f, finds := made(t, row), 0
	for at := range len(text) + 1 {
		found, stands := findsFrom(t, p, text, at), f.Next(text, at) == at
		if found && !stands || whole && found != stands {
			t.Errorf("P15.5: %s: row %s, %v, in %s: from %d found %v, stands %v", shownProgram(p), shown(row), whole, shown(text), at, found, stands)
		}
		if found {
			finds++
		}
	}
	return len(row), whole, finds
}

// TestModel: the model says of the chapter's examples what the chapter says.
func TestModel(t *testing.T) {
	for _, x := range examplesOfPrefix(t) {
		if row, whole := modelRow(x.p); !slices.Equal(row, runesOf(x.row)) || whole != x.whole {
			t.Errorf("%s: the model has %s, %v; want %q, %v", shownProgram(x.p), shown(row), whole, x.row, x.whole)
		}
	}
	for _, x := range examplesOfNext() {
		if place := modelNext(runesOf(x.lit), runesOf(x.text), x.at); place != x.want {
			t.Errorf("%q in %q from %d: the model has %d; want %d", x.lit, x.text, x.at, place, x.want)
		}
	}
}
