package replace_test

import (
	"bytes"
	"fmt"
	"slices"
	"strings"
	"testing"

	"heron/api"
	"heron/regex"
	"heron/replace"
)

// least and most are the edges of all numbers.
const (
	most  = int(^uint(0) >> 1)
	least = -most - 1
)

// first is the regular expression of the chapter's examples, in whose bytes it is looked for.
const (
	first      = `(a+)(?P<x>b)?`
	firstBytes = "aab-a"
)

// made is the Regex of a pattern that is not to be refused.
func made(t testing.TB, pattern string) *regex.Regex {
	t.Helper()
	r, err := regex.Compile(pattern)
	if err != nil || r == nil {
		t.Fatalf("%.100q: %v, %v", pattern, r != nil, err)
	}
	return r
}

// with is a Regex by an engine that is not to be refused.
func with(t testing.TB, r *regex.Regex, engine int) *regex.Regex {
	t.Helper()
	q, errno := r.With(engine)
	if errno != api.OK || q == nil {
		t.Fatalf("%.100q by %d: %v, %d", r.Pattern(), engine, q != nil, errno)
	}
	return q
}

// byEach are a Regex as it was made, and by each engine, by onepass if that can do it.
func byEach(t testing.TB, r *regex.Regex) []*regex.Regex {
	t.Helper()
	l := []*regex.Regex{r}
	for _, engine := range []int{1, 2, 4} {
		l = append(l, with(t, r, engine))
	}
	if q, errno := r.With(3); errno == api.OK {
		l = append(l, q)
	}
	return l
}

// read is the template of a text that is not to be refused.
func read(t testing.TB, r *regex.Regex, text string) *replace.Template {
	t.Helper()
	x, errno := replace.Read(r, text)
	if errno != api.OK || x == nil {
		t.Fatalf("%.100q, %s: %v, %d", r.Pattern(), shown(text), x != nil, errno)
	}
	return x
}

// allOf is All of what is not to be refused.
func allOf(t testing.TB, r *regex.Regex, b []byte, text string) []byte {
	t.Helper()
	got, errno := replace.All(r, b, text)
	if errno != api.OK {
		t.Fatalf("%.100q in %s by %s: %d", r.Pattern(), shown(b), shown(text), errno)
	}
	return got
}

// splitOf is Split of what is not to be refused.
func splitOf(t testing.TB, r *regex.Regex, b []byte, n int) [][]byte {
	t.Helper()
	got, errno := replace.Split(r, b, n)
	if errno != api.OK {
		t.Fatalf("%.100q in %s, %d: %d", r.Pattern(), shown(b), n, errno)
	}
	return got
}

// matchesOf are all matches, where they are not refused.
func matchesOf(t testing.TB, r *regex.Regex, b []byte, n int) [][]int {
	t.Helper()
	l, errno := r.All(b, n)
	if errno != api.OK {
		t.Fatalf("%.100q in %s: %d", r.Pattern(), shown(b), errno)
	}
	return l
}

// shown are bytes as they are told by a failing test.
func shown[T string | []byte](b T) string { return fmt.Sprintf("%.60q (%d)", b, len(b)) }

// shownAll are pieces likewise.
func shownAll(l [][]byte) string { return fmt.Sprintf("%.20q (%d)", l[:min(len(l), 12)], len(l)) }

// samePieces tells whether two lists of pieces are the same; a nil list is as an empty one.
func samePieces(a, b [][]byte) bool { return slices.EqualFunc(a, b, bytes.Equal) }

// pieces are texts, as bytes.
func pieces(l ...string) [][]byte {
	var all [][]byte
	for _, s := range l {
		all = append(all, []byte(s))
	}
	return all
}

// many are so many of a string, as bytes.
func many(count int, s string) []byte { return []byte(strings.Repeat(s, count)) }

// wantReads fails, if the template may not be for the pattern, by whatever engine, or the other way about. (It is All that tells so as well, though nothing is found.)
func wantReads(t testing.TB, pattern, text string, want api.Errno) {
	t.Helper()
	for _, r := range byEach(t, made(t, pattern)) {
		if x, errno := replace.Read(r, text); errno != want || (x != nil) != (want == api.OK) {
			t.Errorf("Read of %s for %.100q: %v, %d; want %d", shown(text), pattern, x != nil, errno, want)
		}
		if got, errno := replace.All(r, nil, text); errno != want || want != api.OK && len(got) > 0 {
			t.Errorf("All of %s for %.100q: %s, %d; want %d", shown(text), pattern, shown(got), errno, want)
		}
	}
}

// wantExpanded fails, if a template does not put that in the place of a match, or an error is answered, or, of one, anything beside it.
func wantExpanded(t testing.TB, x *replace.Template, b []byte, caps []int, want string, wanted api.Errno) {
	t.Helper()
	got, errno := x.Expand(b, caps)
	if errno != wanted || string(got) != want {
		t.Errorf("Expand of %s, %v: %s, %d; want %s, %d", shown(b), caps[:min(len(caps), 20)], shown(got), errno, shown(want), wanted)
	}
}

// wantAll fails, if a pattern, by each engine, is not replaced by that in bytes.
func wantAll(t testing.TB, pattern string, b []byte, text, want string) {
	t.Helper()
	before := bytes.Clone(b)
	for _, r := range byEach(t, made(t, pattern)) {
		if got, errno := replace.All(r, b, text); errno != api.OK || string(got) != want {
			t.Errorf("All of %.100q in %s by %s: %s, %d; want %s", pattern, shown(b), shown(text), shown(got), errno, shown(want))
		}
	}
	if !bytes.Equal(before, b) {
		t.Errorf("%.100q: the bytes have changed", pattern)
	}
}

// wantAllRefused fails, if All does not answer that error, or anything beside it.
func wantAllRefused(t testing.TB, r *regex.Regex, b []byte, text string, want api.Errno) {
	t.Helper()
	if got, errno := replace.All(r, b, text); errno != want || len(got) > 0 {
		t.Errorf("All of %.100q in %s by %s: %s, %d; want %d", r.Pattern(), shown(b), shown(text), shown(got), errno, want)
	}
}

// wantSplit fails, if a pattern, by each engine, does not split bytes so.
func wantSplit(t testing.TB, pattern string, b []byte, n int, want ...string) {
	t.Helper()
	before := bytes.Clone(b)
	for _, r := range byEach(t, made(t, pattern)) {
		if got, errno := replace.Split(r, b, n); errno != api.OK || !samePieces(got, pieces(want...)) {
			t.Errorf("Split of %.100q in %s, %d: %s, %d; want %s", pattern, shown(b), n, shownAll(got), errno, shownAll(pieces(want...)))
		}
	}
	if !bytes.Equal(before, b) {
		t.Errorf("%.100q: the bytes have changed", pattern)
	}
}

// wantSplitRefused fails, if Split does not answer that error, or anything beside it.
func wantSplitRefused(t testing.TB, r *regex.Regex, b []byte, n int, want api.Errno) {
	t.Helper()
	if got, errno := replace.Split(r, b, n); errno != want || len(got) > 0 {
		t.Errorf("Split of %.100q in %s, %d: %s, %d; want %d", r.Pattern(), shown(b), n, shownAll(got), errno, want)
	}
}
