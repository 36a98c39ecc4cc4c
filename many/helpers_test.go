package many_test

import (
	"bytes"
	"fmt"
	"slices"
	"strings"
	"testing"

	"heron/api"
	"heron/many"
	"heron/prog"
	"heron/regex"
	"heron/syntax"
)

// made is the set of patterns that are not to be refused.
func made(t testing.TB, l ...string) *many.Many {
	t.Helper()
	m, which, err := many.Compile(l)
	if m == nil || which != 0 || err != nil {
		t.Fatalf("%s: %v, %d, %v", shownSet(l), m != nil, which, err)
	}
	return m
}

// regexOf is the Regex of a pattern that is not to be refused.
func regexOf(t testing.TB, pattern string) *regex.Regex {
	t.Helper()
	r, err := regex.Compile(pattern)
	if err != nil {
		t.Fatalf("%.100q: %v", pattern, err)
	}
	return r
}

// regexesOf are those of patterns.
func regexesOf(t testing.TB, l []string) []*regex.Regex {
	t.Helper()
	var all []*regex.Regex
	for _, pattern := range l {
		all = append(all, regexOf(t, pattern))
	}
	return all
}

// treeOf is a pattern's tree.
func treeOf(t testing.TB, pattern string) api.Node {
	t.Helper()
	tree, err := syntax.Parse(pattern)
	if err != nil {
		t.Fatalf("%.100q: %v", pattern, err)
	}
	return tree
}

// programOf is the program of a pattern.
func programOf(t testing.TB, pattern string) api.Program {
	t.Helper()
	p, errno := prog.Compile(treeOf(t, pattern))
	if errno != api.OK {
		t.Fatalf("%.100q: %d", pattern, errno)
	}
	return p
}

// programsOf are those of patterns.
func programsOf(t testing.TB, l []string) []api.Program {
	t.Helper()
	var all []api.Program
	for _, pattern := range l {
		all = append(all, programOf(t, pattern))
	}
	return all
}

// joined is the program of patterns side by side.
func joined(t testing.TB, l []string) api.Program {
	t.Helper()
	p, errno := prog.Join(programsOf(t, l))
	if errno != api.OK {
		t.Fatalf("%s: %d", shownSet(l), errno)
	}
	return p
}

// shown are bytes as they are told by a failing test.
func shown(b []byte) string { return fmt.Sprintf("%.60q (%d)", b, len(b)) }

// shownSet are patterns likewise.
func shownSet(l []string) string { return fmt.Sprintf("%.30q (%d)", l[:min(len(l), 6)], len(l)) }

// repeated are so many of a string, as bytes.
func repeated(count int, s string) []byte { return []byte(strings.Repeat(s, count)) }

// told is what a set tells of bytes.
type told struct {
	all   []int
	which int
	caps  []int
}

// none is what it tells where nothing fits.
func none() told { return told{which: -1} }

// same tells whether two sets tell the same; a nil list is as an empty one.
func (x told) same(y told) bool {
	return x.which == y.which && slices.Equal(x.all, y.all) && slices.Equal(x.caps, y.caps)
}

// asked is what a set tells of bytes that are not to be refused.
func asked(t testing.TB, m *many.Many, b []byte) told {
	t.Helper()
	all, errno := m.Matches(b)
	which, caps, other := m.First(b)
	if errno != api.OK || other != api.OK {
		t.Fatalf("%s: %d, %d", shown(b), errno, other)
	}
	return told{all, which, caps}
}

// wantTold fails, if the set of patterns does not tell that of bytes, or changes them.
func wantTold(t testing.TB, l []string, b []byte, want told) {
	t.Helper()
	before := bytes.Clone(b)
	if got := asked(t, made(t, l...), b); !got.same(want) {
		t.Errorf("%s in %s: %v; want %v", shownSet(l), shown(b), got, want)
	}
	if !bytes.Equal(before, b) {
		t.Errorf("%s: the bytes have changed", shownSet(l))
	}
}

// wantLong fails, if a set does not refuse bytes as too many, or answers anything beside that.
func wantLong(t testing.TB, m *many.Many, b []byte) {
	t.Helper()
	if all, errno := m.Matches(b); len(all) != 0 || errno != api.ErrLong {
		t.Errorf("Matches of %s: %v, %d", shown(b), all, errno)
	}
	if which, caps, errno := m.First(b); which != 0 || len(caps) != 0 || errno != api.ErrLong {
		t.Errorf("First of %s: %d, %v, %d", shown(b), which, caps, errno)
	}
}

// with is a list with another string in one place of it.
func with(l []string, at int, s string) []string {
	l = slices.Clone(l)
	l[at] = s
	return l
}
