package dfa_test

import (
	"testing"

	"heron/api"
	"heron/bitstate"
	"heron/dfa"
	"heron/mirror"
	"heron/pike"
)

// mirrored are the automata of a tree's mirror, longest, of few states and of many.
func mirrored(t testing.TB, tree api.Node) []*dfa.DFA {
	t.Helper()
	m, errno := mirror.Mirror(tree)
	if errno != api.OK {
		t.Fatalf("%v: %d", tree, errno)
	}
	var l []*dfa.DFA
	for _, states := range someLimits() {
		l = append(l, made(t, ofTree(t, m), states, true))
	}
	return l
}

// wantBeginnings fails, if the automata of a tree and of its mirror do not tell between them where THE FIND begins and ends, from each place of a text on (P14.6, P14.7); it tells how many there were.
func wantBeginnings(t *testing.T, tree api.Node, text []int) int {
	t.Helper()
	p, back, n := ofTree(t, tree), mirror.Back(text), len(text)
	forward, backward, finds := made(t, p, 5, false), mirrored(t, tree), 0
	for place := range n + 1 {
		f, errno := pike.Run(p, text, place, false)
		if errno != api.OK {
			t.Fatalf("%s: %d", shownProgram(p), errno)
		}
		q := question{text, place, n, false}
		a := asked(t, forward, q)
		if a != endOf(f) {
			t.Errorf("P14.6: %s: %s: %v; want %+v", shownProgram(p), q, a, f)
		}
		if !a.is || !f.Ok {
			continue
		}
		finds++
		for _, d := range backward {
			q := question{back, n - a.end, n - place, true}
			if b := asked(t, d, q); !b.is || n-b.end != f.Caps[0] {
				t.Errorf("P14.7: %s: %s: %v; it begins at %d", shownProgram(p), q, b, f.Caps[0])
			}
		}
	}
	return finds
}

// TestBeginnings: P14.7: where finds begin, among others that end at the same place, that begin ahead of the place asked, and that are empty.
func TestBeginnings(t *testing.T) {
	for _, pattern := range []string{
		`(?:a|b)+c`, `a|ab`, `ab|a`, `a*`, `a*?`, `a+?`, `b*a`, `(?:ab|b)`, `(?:b|ab)`, `a*b`, `\ba+\b`, `\Ba`, `a\B`, `^a|b$`, `^(?:a|b)*$`, `\A(?:a|b)`, `(?:a|b)\z`, `\b`, `\B`, `$`, `^`, `(a|ab)(c|bcd)(d*)`, `(?:(a)|b)*?c`, `a{2,3}`, `a{2,3}?b`, `(?:aa|aaa)b?`, `[^a]a*`, `(?:^b|b$)`, ``, `a.*b|c`,
	} {
		tree, finds := treeOf(t, pattern), 0
		for _, text := range []string{"", "a", "b", "ab", "ba", "aab", "abab", "xxabcc", "abcd", "-aab\nab-", "a\n\nb", "cabcab", "aaaaa", "baaab aab"} {
			finds += wantBeginnings(t, tree, runesOf(text))
		}
		if finds == 0 {
			t.Errorf("%q: nothing was found", pattern)
		}
	}
}

// TestSecondFinds: P14.7: a find that begins behind one that was taken: what stands ahead of the place must not be read, though it would fit.
func TestSecondFinds(t *testing.T) {
	tree, text := treeOf(t, `a+`), runesOf("aaaa")
	for _, d := range mirrored(t, tree) {
		for place := range 4 {
			q := question{mirror.Back(text), 0, 4 - place, true}
			if a := asked(t, d, q); a != at(4-place) {
				t.Errorf("%s: %v", q, a)
			}
		}
	}
	if finds := wantBeginnings(t, tree, text); finds != 4 {
		t.Errorf("%d", finds)
	}
}

// TestLongFinds: P14.6, P14.7: finds in a long text, forward and backward.
func TestLongFinds(t *testing.T) {
	text := many(1000000, int('-'))
	for i := 300000; i < 600000; i++ {
		text[i] = 'a'
	}
	tree := treeOf(t, `\ba+\b`)
	p, back := ofTree(t, tree), mirror.Back(text)
	q := question{text, 0, len(text), false}
	wantEnd(t, p, false, q, at(600000))
	f, errno := bitstate.Run(p, text[299990:600010], 0, false)
	if errno != api.OK || f.Caps[0] != 10 || f.Caps[1] != 300010 {
		t.Errorf("%+v, %d", f, errno)
	}
	for _, d := range mirrored(t, tree) {
		if a := asked(t, d, question{back, 400000, 1000000, true}); a != at(700000) {
			t.Errorf("%v", a)
		}
	}
}
