package replace_test

import (
	"bytes"
	"strings"
	"testing"

	"heron/api"
)

// splitting is what Split answers.
type splitting struct {
	pattern, text string
	n             int
	want          []string
}

// splits are the examples of the chapter, and of DOC.md and of chapter 20.
func splits() []splitting {
	return []splitting{
		{first, firstBytes, -1, []string{"", "-", ""}},
		{first, firstBytes, 0, nil},
		{first, firstBytes, 1, []string{firstBytes}},
		{first, firstBytes, 2, []string{"", "-a"}},
		{`a*`, "baac", -1, []string{"", "b", "c", ""}},
		{`,\x{20}?`, "a, b,c", -1, []string{"a", "b", "c"}},
		{`(?P<x>a)|b`, "a\nb", -1, []string{"", "\n", ""}},
	}
}

// TestSplitExamples: P17.4: the examples of the chapters and of the document, by each engine.
func TestSplitExamples(t *testing.T) {
	for _, x := range splits() {
		wantSplit(t, x.pattern, []byte(x.text), x.n, x.want...)
	}
}

// TestSplit: P17.4: n below 0, 0, 1, as many as there are pieces, one less and one more; nothing found, matches without bytes, bytes that are no UTF-8.
func TestSplit(t *testing.T) {
	for _, x := range []splitting{
		{`,`, "a,b,,c", least, []string{"a", "b", "", "c"}}, {`,`, "a,b,,c", -2, []string{"a", "b", "", "c"}}, {`,`, "a,b,,c", -1, []string{"a", "b", "", "c"}}, {`,`, "a,b,,c", 0, nil}, {`,`, "a,b,,c", 1, []string{"a,b,,c"}}, {`,`, "a,b,,c", 2, []string{"a", "b,,c"}}, {`,`, "a,b,,c", 3, []string{"a", "b", ",c"}}, {`,`, "a,b,,c", 4, []string{"a", "b", "", "c"}}, {`,`, "a,b,,c", 5, []string{"a", "b", "", "c"}}, {`,`, "a,b,,c", most, []string{"a", "b", "", "c"}},
		// Nothing is found: one piece.
		{`x`, "", -1, []string{""}}, {`x`, "", 0, nil}, {`x`, "", 1, []string{""}}, {`x`, "", 2, []string{""}}, {`x`, "abc", -1, []string{"abc"}}, {`x`, "abc", 0, nil}, {`x`, "abc", 1, []string{"abc"}}, {`x`, "abc", most, []string{"abc"}}, {`\Ax`, "ax", -1, []string{"ax"}},
		// All is found: pieces without bytes.
		{`a`, "a", -1, []string{"", ""}}, {`a`, "aa", -1, []string{"", "", ""}}, {`a`, "aa", 2, []string{"", "a"}}, {`a+`, "aa", -1, []string{"", ""}}, {`\A(?:a|b)*\z`, "abba", -1, []string{"", ""}}, {`\A(?:a|b)*\z`, "abba", 1, []string{"abba"}},
		// Matches without bytes: at the beginning, at the end, one behind another.
		{``, "", -1, []string{"", ""}}, {``, "", 1, []string{""}}, {``, "", 2, []string{"", ""}}, {``, "ab", -1, []string{"", "a", "b", ""}}, {``, "ab", 2, []string{"", "ab"}}, {``, "ab", 3, []string{"", "a", "b"}}, {``, "ab", 4, []string{"", "a", "b", ""}}, {``, "é\xFF", -1, []string{"", "é", "\xFF", ""}}, {`\A`, "ab", -1, []string{"", "ab"}}, {`\z`, "ab", -1, []string{"ab", ""}}, {`^`, "a\nb", -1, []string{"", "a\n", "b"}}, {`\b`, "ab c", -1, []string{"", "ab", " ", "c", ""}}, {`\B`, "abc", -1, []string{"a", "b", "c"}}, {`a*`, "aab", -1, []string{"", "b", ""}}, {`a*`, "baa", -1, []string{"", "b", ""}}, {`a*?`, "aa", -1, []string{"", "a", "a", ""}},
		// Groups are of no matter.
		{`(a)|(b)`, "xaybz", -1, []string{"x", "y", "z"}}, {`(a)(b)?`, "-a-ab-", 2, []string{"-", "-ab-"}}, {`(\A)`, "a", -1, []string{"", "a"}},
		// No UTF-8.
		{`\x{FFFD}`, "a\xFFb\xC3", -1, []string{"a", "b", ""}}, {`a`, "\xFFa\xFE\xC3a\xA9", -1, []string{"\xFF", "\xFE\xC3", "\xA9"}}, {`é`, "\xC3\xC3\xA9\xA9", -1, []string{"\xC3", "\xA9"}}, {`.`, "\xC3\xA9\xFF", -1, []string{"", "", ""}},
		// What holds at a place is asked of all the bytes, not of a piece.
		{`\Ba`, "aaa", -1, []string{"a", "", ""}}, {`^a`, "aa", -1, []string{"", "a"}},
	} {
		wantSplit(t, x.pattern, []byte(x.text), x.n, x.want...)
	}
	wantSplit(t, `a`, nil, -1, "")
	wantSplit(t, `a`, nil, 0)
	wantSplit(t, ``, nil, -1, "", "")
}

// TestSplitModel: P17.4: for each n about how many pieces there are, there is one piece more than matches, as the model says.
func TestSplitModel(t *testing.T) {
	for _, pattern := range forThereAndBack() {
		for _, text := range textsThereAndBack() {
			for _, r := range byEach(t, made(t, pattern)) {
				wantModelSplit(t, r, []byte(text))
			}
		}
	}
}

// TestLongSplit: P17.4, W4, W7: bytes of MaxText and one more, which comes ahead of n 0; pieces of all sizes.
func TestLongSplit(t *testing.T) {
	const long = api.MaxText
	b := many(long+1, "b")
	b[0], b[long-1], b[long] = 'a', 'a', 'a'
	for _, r := range byEach(t, made(t, `\Aa`)) {
		for _, n := range []int{least, -1, 0, 1, 2, most} {
			wantSplitRefused(t, r, b, n, api.ErrLong)
		}
	}
	for _, engine := range []int{0, 1, 4} {
		r := with(t, made(t, `a`), engine)
		if got := splitOf(t, r, b[:long], -1); !samePieces(got, [][]byte{nil, b[1 : long-1], nil}) {
			t.Errorf("by %d: %s", engine, shownAll(got))
		}
		if got := splitOf(t, r, b[:long], 2); !samePieces(got, [][]byte{nil, b[1:long]}) {
			t.Errorf("by %d: %s", engine, shownAll(got))
		}
		if got := splitOf(t, r, b[:long], 1); !samePieces(got, [][]byte{b[:long]}) {
			t.Errorf("by %d: %s", engine, shownAll(got))
		}
		if got := splitOf(t, r, b[:long], 0); len(got) != 0 {
			t.Errorf("by %d: %s", engine, shownAll(got))
		}
	}
	// As many pieces as there can be.
	got := splitOf(t, made(t, ``), b[:long], -1)
	if len(got) != long+2 || !bytes.Equal(bytes.Join(got, nil), b[:long]) {
		t.Errorf("%s", shownAll(got))
	}
	for i, piece := range got[1 : long+1] {
		if len(piece) != 1 {
			t.Fatalf("%d: %q", i+1, piece)
		}
	}
}

// TestSplitRefused: P17.4: where engine 2 refuses to search, Split is refused as well; but n 0 and n 1 search for nothing.
func TestSplitRefused(t *testing.T) {
	const long = api.MaxText
	b := many(long, "a")
	r := with(t, made(t, `a`), 2)
	for _, n := range []int{least, -1, 2, 3, most} {
		wantSplitRefused(t, r, b, n, api.ErrBig)
	}
	if got := splitOf(t, r, b, 0); len(got) != 0 {
		t.Errorf("%s", shownAll(got))
	}
	if got := splitOf(t, r, b, 1); !samePieces(got, [][]byte{b}) {
		t.Errorf("%s", shownAll(got))
	}
	if got := splitOf(t, r, b[1:], 3); !samePieces(got, [][]byte{nil, nil, b[3:]}) {
		t.Errorf("%s", shownAll(got))
	}
	// 724 instructions: fewer bytes do.
	great := with(t, made(t, `(a{5}){100}b{21}`), 2)
	text := []byte(strings.Repeat("a", 500) + strings.Repeat("b", 25000))
	wantSplitRefused(t, great, text, -1, api.ErrBig)
	if got := splitOf(t, great, text[:20000], -1); !samePieces(got, [][]byte{nil, text[521:20000]}) {
		t.Errorf("%s", shownAll(got))
	}
}
