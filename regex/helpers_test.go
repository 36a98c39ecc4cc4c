package regex_test

import (
	"bytes"
	"fmt"
	"slices"
	"strings"
	"testing"

	"heron/api"
	"heron/prog"
	"heron/regex"
	"heron/syntax"
)

// least and most are the edges of all numbers.
const (
	most  = int(^uint(0) >> 1)
	least = -most - 1
)

// lastEngine is the greatest number of an engine.
const lastEngine = 4

// treeOf is a pattern's tree.
func treeOf(t testing.TB, pattern string) api.Node {
	t.Helper()
	tree, err := syntax.Parse(pattern)
	if err != nil {
		t.Fatalf("%.100q: %v", pattern, err)
	}
	return tree
}

// programOf is the program of a pattern.
func programOf(t testing.TB, pattern string) api.Program {
	t.Helper()
	p, errno := prog.Compile(treeOf(t, pattern))
	if errno != api.OK {
		t.Fatalf("%.100q: %d", pattern, errno)
	}
	return p
}

// made is the Regex of a pattern that is not to be refused.
func made(t testing.TB, pattern string) *regex.Regex {
	t.Helper()
	r, err := regex.Compile(pattern)
	if err != nil || r == nil {
		t.Fatalf("%.100q: %v, %v", pattern, r, err)
	}
	return r
}

// with is a Regex by an engine that is not to be refused.
func with(t testing.TB, r *regex.Regex, engine int) *regex.Regex {
	t.Helper()
	q, errno := r.With(engine)
	if errno != api.OK || q == nil {
		t.Fatalf("%.100q by %d: %v, %d", r.Pattern(), engine, q, errno)
	}
	return q
}

// byEach are a Regex as it was made, and by each engine, by onepass if that can do it.
func byEach(t testing.TB, r *regex.Regex) []*regex.Regex {
	t.Helper()
	l := []*regex.Regex{r}
	for engine := range lastEngine + 1 {
		q, errno := r.With(engine)
		if errno == api.ErrRegexEngine && engine == 3 {
			continue
		}
		if errno != api.OK {
			t.Fatalf("%.100q by %d: %d", r.Pattern(), engine, errno)
		}
		l = append(l, q)
	}
	return l
}

// shown are bytes as they are told by a failing test.
func shown(b []byte) string { return fmt.Sprintf("%.60q (%d)", b, len(b)) }

// shownAll are items likewise.
func shownAll(l [][]int) string { return fmt.Sprintf("%v (%d)", l[:min(len(l), 12)], len(l)) }

// sameAll tells whether two lists of items are the same; a nil list is as an empty one.
func sameAll(a, b [][]int) bool { return slices.EqualFunc(a, b, slices.Equal[[]int]) }

// headOf is what an answer of All begins with, where Submatch is asked for.
func headOf(all [][]int) []int {
	if len(all) == 0 {
		return nil
	}
	return all[0]
}

// wantFirst fails, if Match, Find and Submatch do not tell that.
func wantFirst(t testing.TB, r *regex.Regex, b []byte, want []int) {
	t.Helper()
	is, errno := r.Match(b)
	if errno != api.OK || is != (len(want) > 0) {
		t.Errorf("%.100q in %s: Match %v, %d; want %v", r.Pattern(), shown(b), is, errno, want)
	}
	two, errno := r.Find(b)
	if errno != api.OK || !slices.Equal(two, want[:min(2, len(want))]) {
		t.Errorf("%.100q in %s: Find %v, %d; want %v", r.Pattern(), shown(b), two, errno, want)
	}
	caps, errno := r.Submatch(b)
	if errno != api.OK || !slices.Equal(caps, want) {
		t.Errorf("%.100q in %s: Submatch %v, %d; want %v", r.Pattern(), shown(b), caps, errno, want)
	}
}

// wantAll fails, if All does not tell that, or, of n, the first ones of it.
func wantAll(t testing.TB, r *regex.Regex, b []byte, want [][]int) {
	t.Helper()
	wantSome(t, r, b, want, -1, least, 0, 1, 2, len(want)-1, len(want), len(want)+1, most)
}

// wantSome fails likewise, of those n alone.
func wantSome(t testing.TB, r *regex.Regex, b []byte, want [][]int, ns ...int) {
	t.Helper()
	for _, n := range ns {
		some := want
		if n >= 0 {
			some = want[:min(n, len(want))]
		}
		all, errno := r.All(b, n)
		if errno != api.OK || !sameAll(all, some) {
			t.Errorf("%.100q in %s: All %d: %s, %d; want %s", r.Pattern(), shown(b), n, shownAll(all), errno, shownAll(some))
		}
	}
}

// wantFinds fails, if a pattern, by each engine, does not find that in bytes, in all that can be asked.
func wantFinds(t testing.TB, pattern string, b []byte, want ...[]int) {
	t.Helper()
	before := bytes.Clone(b)
	for _, r := range byEach(t, made(t, pattern)) {
		wantFirst(t, r, b, headOf(want))
		wantAll(t, r, b, want)
	}
	if !bytes.Equal(before, b) {
		t.Errorf("%.100q: the bytes have changed", pattern)
	}
}

// wantRefused fails, if one of the searches does not answer that error, or anything beside it.
func wantRefused(t testing.TB, r *regex.Regex, b []byte, want api.Errno) {
	t.Helper()
	if is, errno := r.Match(b); is || errno != want {
		t.Errorf("%.100q in %s: Match %v, %d; want %d", r.Pattern(), shown(b), is, errno, want)
	}
	if two, errno := r.Find(b); len(two) != 0 || errno != want {
		t.Errorf("%.100q in %s: Find %v, %d; want %d", r.Pattern(), shown(b), two, errno, want)
	}
	if caps, errno := r.Submatch(b); len(caps) != 0 || errno != want {
		t.Errorf("%.100q in %s: Submatch %v, %d; want %d", r.Pattern(), shown(b), caps, errno, want)
	}
	for _, n := range []int{least, -1, 1, 2, most} {
		if all, errno := r.All(b, n); len(all) != 0 || errno != want {
			t.Errorf("%.100q in %s: All %d: %s, %d; want %d", r.Pattern(), shown(b), n, shownAll(all), errno, want)
		}
	}
}

// pairs are items of two offsets each.
func pairs(l ...int) [][]int {
	var items [][]int
	for i := 0; i < len(l); i += 2 {
		items = append(items, []int{l[i], l[i+1]})
	}
	return items
}

// many are so many of a string, as bytes.
func many(count int, s string) []byte { return []byte(strings.Repeat(s, count)) }
