package replace_test

import (
	"slices"
	"strconv"
	"strings"
	"testing"

	"heron/api"
	"heron/regex"
)

// The chapter's words, slowly, byte by byte.

// modelPart is a byte that stands for itself, or a group (from 0 on).
type modelPart struct {
	isGroup bool
	group   int
	text    byte
}

// isDigit and isLetter are as the grammar of chapter 4 has them.
func isDigit(c byte) bool  { return strings.IndexByte("0123456789", c) >= 0 }
func isLetter(c byte) bool { return c == '_' || c|32 >= 'a' && c|32 <= 'z' }

// isNumber tells whether a word is a digit and further digits.
func isNumber(word string) bool {
	return word != "" && !slices.ContainsFunc([]byte(word), func(c byte) bool { return !isDigit(c) })
}

// isName tells whether a word is a name of chapter 4's grammar.
func isName(word string) bool {
	if word == "" || len(word) > api.MaxName || !isLetter(word[0]) {
		return false
	}
	return !slices.ContainsFunc([]byte(word), func(c byte) bool { return !isLetter(c) && !isDigit(c) })
}

// modelGroup is the group of a number or a name; false: it may not be.
func modelGroup(r *regex.Regex, word string) (int, bool) {
	if isNumber(word) {
		digits := strings.TrimLeft(word[:len(word)-1], "0") + word[len(word)-1:]
		k, err := strconv.Atoi(digits)
		return k, err == nil && k <= r.Groups()
	}
	k := slices.Index(r.Names(), word) + 1
	return k, isName(word) && k > 0
}

// modelRead are the parts of a template; false: it may not be.
func modelRead(r *regex.Regex, text string) ([]modelPart, bool) {
	var parts []modelPart
	for at := 0; at < len(text); {
		if text[at] != '$' {
			parts = append(parts, modelPart{text: text[at]})
			at++
			continue
		}
		at++
		if at < len(text) && text[at] == '$' {
			parts = append(parts, modelPart{text: '$'})
			at++
			continue
		}
		from, to := at, at
		if at < len(text) && text[at] == '{' {
			from = at + 1
			to = from
			for to < len(text) && text[to] != '}' {
				to++
			}
			if to == len(text) {
				return nil, false
			}
			at = to + 1
		} else {
			for to < len(text) && isDigit(text[to]) {
				to++
			}
			at = to
		}
		k, is := modelGroup(r, text[from:to])
		if !is {
			return nil, false
		}
		parts = append(parts, modelPart{isGroup: true, group: k})
	}
	return parts, true
}

// modelExpand is what parts put in the place of a match.
func modelExpand(parts []modelPart, b []byte, caps []int) []byte {
	var out []byte
	for _, p := range parts {
		if !p.isGroup {
			out = append(out, p.text)
			continue
		}
		for at := caps[2*p.group]; at < caps[2*p.group+1]; at++ {
			out = append(out, b[at])
		}
	}
	return out
}

// modelMayBe tells whether captures may be, of so many groups, in so many bytes (P17.2).
func modelMayBe(groups, size int, caps []int) bool {
	if len(caps) != 2*(groups+1) {
		return false
	}
	for i := 0; i < len(caps); i += 2 {
		if caps[i] == -1 && caps[i+1] == -1 {
			continue
		}
		if caps[i] < 0 || caps[i+1] < caps[i] || size < caps[i+1] {
			return false
		}
	}
	return true
}

// modelAll is b with the parts in the place of matches: byte by byte.
func modelAll(parts []modelPart, b []byte, matches [][]int) []byte {
	var out []byte
	at := 0
	for _, caps := range matches {
		for ; at < caps[0]; at++ {
			out = append(out, b[at])
		}
		out = append(out, modelExpand(parts, b, caps)...)
		at = caps[1]
	}
	for ; at < len(b); at++ {
		out = append(out, b[at])
	}
	return out
}

// modelSplit are the pieces of b between matches.
func modelSplit(b []byte, matches [][]int) [][]byte {
	ends, begins := []int{0}, []int{}
	for _, caps := range matches {
		begins, ends = append(begins, caps[0]), append(ends, caps[1])
	}
	begins = append(begins, len(b))
	var l [][]byte
	for i := range ends {
		l = append(l, b[ends[i]:begins[i]])
	}
	return l
}

// wantModel fails, if Read, Expand and All of a template, by a Regex, are not what the models say.
func wantModel(t testing.TB, r *regex.Regex, b []byte, text string) {
	t.Helper()
	parts, may := modelRead(r, text)
	if !may {
		wantReads(t, r.Pattern(), text, api.ErrReplace)
		wantAllRefused(t, r, b, text, api.ErrReplace)
		return
	}
	x := read(t, r, text)
	matches := matchesOf(t, r, b, -1)
	for _, caps := range matches {
		wantExpanded(t, x, b, caps, string(modelExpand(parts, b, caps)), api.OK)
	}
	if got, want := allOf(t, r, b, text), modelAll(parts, b, matches); string(got) != string(want) {
		t.Errorf("All of %.100q in %s by %s: %s; want %s", r.Pattern(), shown(b), shown(text), shown(got), shown(want))
	}
}

// wantModelSplit fails, if Split is not what the model says, of an n and those about how many pieces there are.
func wantModelSplit(t testing.TB, r *regex.Regex, b []byte) {
	t.Helper()
	whole := len(matchesOf(t, r, b, -1)) + 1
	for _, n := range []int{least, -2, -1, 0, 1, 2, whole - 1, whole, whole + 1, most} {
		var want [][]byte
		if n < 0 {
			want = modelSplit(b, matchesOf(t, r, b, -1))
		} else if n > 0 {
			want = modelSplit(b, matchesOf(t, r, b, n-1))
		}
		if got := splitOf(t, r, b, n); !samePieces(got, want) {
			t.Errorf("Split of %.100q in %s, %d: %s; want %s", r.Pattern(), shown(b), n, shownAll(got), shownAll(want))
		}
	}
}

// TestModel: the models say of the chapter's examples what the chapter says.
func TestModel(t *testing.T) {
	for _, x := range examples() {
		r := made(t, x.pattern)
		parts, may := modelRead(r, x.template)
		if may != (x.errno == api.OK) {
			t.Errorf("%q for %q: the model has %v", x.template, x.pattern, may)
		}
		if may && string(modelAll(parts, []byte(x.text), matchesOf(t, r, []byte(x.text), -1))) != x.want {
			t.Errorf("%q by %q: not %q", x.text, x.template, x.want)
		}
	}
	for _, x := range splits() {
		r := made(t, x.pattern)
		if x.n == 0 {
			continue
		}
		if got := modelSplit([]byte(x.text), matchesOf(t, r, []byte(x.text), max(x.n, 0)-1)); !samePieces(got, pieces(x.want...)) {
			t.Errorf("%q by %q, %d: the model has %q", x.text, x.pattern, x.n, got)
		}
	}
}
