package bitstate_test

import (
	"testing"

	"heron/api"
)

// search is one, and what it is to answer.
type search struct {
	p        api.Program
	text     []int
	at       int
	anchored bool
	want     api.Found
}

// examples are the chapter's, but for those that are refused.
func examples(t testing.TB) []search {
	a := ofPattern(t, `a`)
	return []search{
		{a, runesOf("aba"), 0, false, found(4, 0, 0, 1)},
		{a, runesOf("aba"), 1, false, found(2+4, 0, 2, 3)},
		{a, runesOf("aba"), 1, true, nothing(2)},
		{a, runesOf("aba"), 3, false, nothing(2)},
		// 0 and 1; 2, 3 and 4, whose rune is not there; 6 and 7, whose loop was met; 8 and 9.
		{ofPattern(t, `(a*)*`), runesOf("b"), 0, false, found(9, 0, 0, 0, -1, -1)},
		{whole(2, either(0, 0)), nil, 0, false, nothing(1)},
	}
}

// wantSearches fails, if one of them answers otherwise, or does not do what the chapter says of all.
func wantSearches(t *testing.T, l []search) {
	t.Helper()
	for _, x := range l {
		wantRun(t, x.p, x.text, x.at, x.anchored, x.want)
		wantAll(t, x.p, x.text)
	}
}

// TestExamples: P12.1: what the chapter's examples say.
func TestExamples(t *testing.T) {
	wantSearches(t, examples(t))
	wantRefused(t, "beyond the text", ofPattern(t, `a`), runesOf("aba"), 4, api.ErrArg)
	wantRefused(t, "too big", whole(2, many(17, fail())...), make([]int, 1000000), 0, api.ErrBig)
}

// TestMatchEndsRun: P12.1: behind a Match nothing more is met: neither what is left of its way, nor other beginnings.
func TestMatchEndsRun(t *testing.T) {
	// a, or a and b: as Match 1 and as Match 2; the one, or the other ahead.
	one := whole(2, either(1, 3), ifA(2), match(1), ifA(4), ifB(5), match(2))
	other := whole(2, either(3, 1), ifA(2), match(1), ifA(4), ifB(5), match(2))
	wantSearches(t, []search{
		{whole(2, match(0)), runesOf("ab"), 0, false, found(1, 0, -1, -1)},
		{whole(2, match(0)), runesOf("ab"), 1, false, found(1, 0, -1, -1)},
		{one, runesOf("ab"), 0, false, found(3, 1, -1, -1)},
		{one, runesOf("ab"), 0, true, found(3, 1, -1, -1)},
		{one, runesOf("aab"), 0, false, found(3, 1, -1, -1)},
		{one, runesOf("bab"), 0, false, found(3+3, 1, -1, -1)},
		{other, runesOf("ab"), 0, false, found(4, 2, -1, -1)},
		{other, runesOf("aa"), 0, false, found(3+2, 1, -1, -1)},
		{other, runesOf("a"), 0, false, found(3+2, 1, -1, -1)},
		// Out of several OpAlts and notes, of which much is left.
		{whole(2, either(1, 2), match(7), ifA(1)), runesOf("aa"), 0, false, found(2, 7, -1, -1)},
		{whole(2, either(2, 1), match(7), ifA(1)), runesOf("aa"), 0, false, found(3, 7, -1, -1)},
		{whole(4, either(1, 6), note(2, 2), either(3, 5), note(3, 4), match(9), fail(), match(8)), runesOf("a"), 0, false, found(5, 9, -1, -1, 0, 0)},
		{whole(4, either(1, 6), note(2, 2), either(3, 5), note(3, 4), fail(), match(9), match(8)), runesOf("a"), 0, false, found(6, 9, -1, -1, 0, -1)},
		{whole(4, either(1, 6), note(2, 2), either(3, 5), note(3, 4), fail(), fail(), match(8)), runesOf("a"), 0, false, found(7, 8, -1, -1, -1, -1)},
		{ofPattern(t, `a*`), runesOf("aab"), 0, false, found(1+3*2+2+2, 0, 0, 2)},
		{ofPattern(t, `a*?`), runesOf("aab"), 0, false, found(4, 0, 0, 0)},
	})
}

// TestMetFromEarlier: P12.1: a pair that was met from an earlier beginning is not gone into again.
func TestMetFromEarlier(t *testing.T) {
	// 0 Cap 0; 1 Alt > 2, 4; 2 Rune a; 3 Nop > 1; 4 Rune b; 5 Cap 1; 6 Match.
	loop := ofPattern(t, `a*b`)
	// 0 Cap 0; 1 Rune a; 2 Alt > 1, 3; 3 Rune b; 4 Cap 1; 5 Match.
	some := ofPattern(t, `a+b`)
	wantSearches(t, []search{
		{whole(2, ifA(0)), runesOf("aaa"), 0, false, nothing(4)},
		{whole(2, ifA(0)), runesOf("aaa"), 0, true, nothing(4)},
		{whole(2, ifA(0)), runesOf("aba"), 0, false, nothing(4)},
		{whole(2, ifA(0)), runesOf("aba"), 0, true, nothing(2)},
		// From 0: 0 1 2 at 0, 3 1 2 at 1 to 3, 4 at 3 to 0. From each other place the 0 alone.
		{loop, runesOf("aaa"), 0, false, nothing(3 + 3*3 + 4 + 3)},
		{loop, runesOf("aaa"), 0, true, nothing(3 + 3*3 + 4)},
		{loop, runesOf("aaa"), 1, false, nothing(3 + 3*2 + 3 + 2)},
		{loop, runesOf("aaac"), 0, false, nothing(3 + 3*3 + 4 + 3 + 4)},
		{loop, runesOf("aacaab"), 0, false, found((3+3*2+3+2)+(3+3*2+1+2), 0, 3, 6)},
		// From 0: 0 1 at 0, 2 1 at 1 and 2, 3 at 2 and 1. From 1 the 0 alone, from 2 likewise; then from 3: 0 1.
		{some, runesOf("aa"), 0, false, nothing(2 + 2*2 + 2 + 2)},
		{some, runesOf("aacab"), 0, false, found((2+2*2+2+2)+2+3+2, 0, 3, 5)},
		// Met by another capture's way; the find has the captures of its own way alone.
		{whole(4, either(1, 4), note(2, 2), ifA(3), fail(), note(3, 2)), runesOf("aa"), 0, false, nothing(4*3 + 2)},
		{whole(4, either(1, 3), note(2, 2), ifA(5), note(3, 4), ifB(6), fail(), match(1)), runesOf("ab"), 0, false, found(6+5+1, 1, -1, -1, -1, 1)},
		// The Start of a later beginning was met on an earlier one's way: nothing is left to it.
		{whole(4, note(2, 1), ifA(2), either(0, 3), ifB(4), match(0)), runesOf("aaaa"), 0, false, nothing(2 + 4*3 + 4)},
	})
	// As many beginnings as places, each way as long as what is left: steps are linear all the same.
	text := many(1000, int('a'))
	wantRun(t, loop, text, 0, false, nothing(3+3*1000+1001+1000))
	wantRun(t, ofPattern(t, `(?:a|a)*b`), text, 0, false, ofComing(ofPattern(t, `(?:a|a)*b`), text))
	wantRun(t, ofPattern(t, `(?:(a*)*|a+)*b`), text, 0, false, ofComing(ofPattern(t, `(?:(a*)*|a+)*b`), text))
}

// ofComing is what a search in vain answers: it meets all that can be come to, once.
func ofComing(p api.Program, text []int) api.Found {
	pairs, _ := comesTo(p, text, 0, false)
	return nothing(pairs)
}

// TestCapturesAgain: P12.1: where no Match was met, a capture becomes again what it was: -1, or an earlier note.
func TestCapturesAgain(t *testing.T) {
	wantSearches(t, []search{
		{whole(4, either(1, 3), note(2, 2), fail(), match(0)), nil, 0, false, found(4, 0, -1, -1, -1, -1)},
		{whole(4, note(2, 1), ifA(2), either(3, 5), note(2, 4), fail(), match(0)), runesOf("a"), 0, false, found(6, 0, -1, -1, 0, -1)},
		{whole(4, note(2, 1), ifA(2), either(3, 5), note(2, 4), ifB(5), match(0)), runesOf("ab"), 0, false, found(6, 0, -1, -1, 1, -1)},
		{whole(4, note(2, 1), ifA(2), either(3, 5), note(2, 4), ifB(5), match(0)), runesOf("aa"), 0, false, found(6, 0, -1, -1, 0, -1)},
		// Two notes of one capture at one place, then two at two places: out of both.
		{whole(4, either(1, 4), note(3, 2), note(3, 3), fail(), match(0)), runesOf("a"), 0, false, found(5, 0, -1, -1, -1, -1)},
		{whole(4, either(1, 5), note(3, 2), ifA(3), note(3, 4), fail(), match(0)), runesOf("a"), 0, false, found(6, 0, -1, -1, -1, -1)},
		// Out of the inner one alone.
		{whole(4, either(1, 7), note(3, 2), ifA(3), either(4, 6), note(3, 5), fail(), match(1), match(0)), runesOf("a"), 0, false, found(7, 1, -1, -1, -1, 0)},
		// Several captures, in the order in which they were noted and in the other one.
		{whole(6, either(1, 5), note(2, 2), note(3, 3), note(4, 4), fail(), match(0)), runesOf("a"), 0, false, found(6, 0, -1, -1, -1, -1, -1, -1)},
		{whole(6, note(2, 1), note(3, 2), either(3, 6), note(3, 4), note(2, 5), fail(), match(0)), runesOf("a"), 1, false, found(7, 0, -1, -1, 1, 1, -1, -1)},
		{whole(4, either(1, 4), note(0, 2), note(1, 3), ifB(3), note(2, 5), match(0)), runesOf("a"), 0, false, found(6, 0, -1, -1, 0, -1)},
		// A beginning has none, whatever the one ahead noted.
		{whole(4, note(2, 1), ifA(2), note(3, 3), ifB(4), match(0)), runesOf("aab"), 0, false, found(4+5, 0, -1, -1, 1, 2)},
		{whole(4, either(1, 3), note(2, 2), ifB(4), ifHolds(api.EndText, 4), match(0)), runesOf("aa"), 0, false, found(4+4+5, 0, -1, -1, -1, -1)},
		// A later note in the place of an earlier one.
		{whole(4, note(2, 1), ifA(2), note(2, 3), match(0)), runesOf("a"), 0, false, found(4, 0, -1, -1, 1, -1)},
		{whole(1002, note(1001, 1), ifA(2), note(1000, 3), match(99)), runesOf("ba"), 0, false, found(6, 99, append(many(1000, -1), 2, 1)...)},
		{whole(1002, either(1, 4), note(1001, 2), note(1000, 3), fail(), match(99)), runesOf("ba"), 0, false, found(5, 99, many(1002, -1)...)},
	})
	for _, x := range []struct {
		pattern, text string
		want          []int
	}{
		{`(?:(a)|b)*`, "ab", []int{0, 2, 0, 1}}, {`(?:(a)|b)*`, "aba", []int{0, 3, 2, 3}}, {`(a)b|a(b)?`, "ac", []int{0, 1, -1, -1, -1, -1}}, {`(?:(a)(b)|(a))*c`, "aac", []int{0, 3, -1, -1, -1, -1, 1, 2}},
		{`(a|ab)(c|bcd)(d*)`, "abcd", []int{0, 4, 0, 1, 1, 4, 4, 4}}, {`(?:(a*)b|(a*)c)`, "aac", []int{0, 3, -1, -1, 0, 2}},
	} {
		if f := ran(t, ofPattern(t, x.pattern), runesOf(x.text), 0, false); !sameFind(f, found(0, 0, x.want...)) {
			t.Errorf("%q over %q: %+v; want %v", x.pattern, x.text, f, x.want)
		}
	}
	// So many captures as the program has, be they noted or not.
	for _, caps := range []int{2, 4, 500, 1002} {
		wantRun(t, whole(caps, match(0)), nil, 0, false, found(1, 0, many(caps, -1)...))
		wantRun(t, whole(caps, fail()), nil, 0, false, nothing(1))
	}
}

// TestStepsGoOn: P12.1, P12.4: steps go on counting from beginning to beginning; anchored, the first one alone counts.
func TestStepsGoOn(t *testing.T) {
	aab := ofPattern(t, `aab`)
	wantSearches(t, []search{
		{whole(2, fail()), runesOf("ab"), 0, false, nothing(3)},
		{whole(2, fail()), runesOf("ab"), 0, true, nothing(1)},
		{whole(2, fail()), runesOf("ab"), 2, false, nothing(1)},
		{ofPattern(t, `b`), runesOf("aaa"), 0, false, nothing(8)},
		{ofPattern(t, `b`), runesOf("aab"), 0, false, found(2+2+4, 0, 2, 3)},
		{ofPattern(t, `b`), runesOf("aab"), 0, true, nothing(2)},
		{ofPattern(t, `b`), runesOf("aab"), 1, false, found(2+4, 0, 2, 3)},
		{ofPattern(t, `b`), runesOf("aab"), 2, true, found(4, 0, 2, 3)},
		{ofPattern(t, `b`), runesOf("aab"), 3, false, nothing(2)},
		// From 0: the 0 to 3; from 1: all six; nothing of it was met.
		{aab, runesOf("aaab"), 0, false, found(4+6, 0, 1, 4)},
		{aab, runesOf("aaab"), 0, true, nothing(4)},
		{aab, runesOf("aaab"), 1, true, found(6, 0, 1, 4)},
		{aab, runesOf("aaab"), 2, false, nothing(3 + 2 + 2)},
		{ofPattern(t, `abc|b`), runesOf("abc"), 0, false, found(2+3+1+2, 0, 0, 3)},
		{ofPattern(t, `abc|b`), runesOf("abd"), 0, false, found((2+3+1)+(3+3), 0, 1, 2)},
	})
	wantRun(t, aab, many(100000, int('a')), 0, true, nothing(4))
	wantRun(t, aab, many(100000, int('a')), 0, false, nothing(4*99998+4+3+2))
}

// TestLoops: P12.1, W1: loops of instructions that take no rune.
func TestLoops(t *testing.T) {
	wantSearches(t, []search{
		{whole(2, either(0, 0)), runesOf("ab"), 0, false, nothing(3)},
		{whole(2, either(0, 0)), runesOf("ab"), 0, true, nothing(1)},
		{whole(2, note(1, 0)), runesOf("ab"), 1, false, nothing(2)},
		{whole(2, goOn(0)), nil, 0, true, nothing(1)},
		{whole(2, goOn(1), goOn(2), goOn(0)), nil, 0, false, nothing(3)},
		{whole(2, goOn(1), either(0, 2), match(5)), runesOf("a"), 0, false, found(3, 5, -1, -1)},
		{whole(2, either(1, 3), note(0, 2), goOn(0), match(5)), runesOf("a"), 0, false, found(4, 5, -1, -1)},
		{whole(2, either(1, 3), note(0, 2), ifHolds(api.BeginText, 0), match(5)), runesOf("a"), 1, false, found(4, 5, -1, -1)},
		{whole(2, ifHolds(api.WordEdge, 0)), runesOf("a"), 0, false, nothing(2)},
		{whole(4, note(2, 1), either(0, 2), note(3, 3), match(0)), nil, 0, true, found(4, 0, -1, -1, 0, 0)},
		{ofPattern(t, `(?:)+`), runesOf("a"), 0, false, found(4, 0, 0, 0)},
	})
	for _, x := range []struct {
		pattern, text string
		want          []int
	}{
		{`(|a)+`, "aa", []int{0, 0, 0, 0}}, {`(|a)*`, "aa", []int{0, 2, 1, 2}}, {`(a*)*`, "b", []int{0, 0, -1, -1}}, {`(a*)+`, "b", []int{0, 0, 0, 0}},
		{`(?:(a??)(b??))+c`, "abc", []int{0, 3, 0, 1, 1, 2}}, {`(?:(a*)*)*b`, "aab", []int{0, 3, 0, 2}},
	} {
		wantAll(t, ofPattern(t, x.pattern), runesOf(x.text))
		if f := ran(t, ofPattern(t, x.pattern), runesOf(x.text), 0, false); !sameFind(f, found(0, 0, x.want...)) {
			t.Errorf("%q over %q: %+v; want %v", x.pattern, x.text, f, x.want)
		}
	}
}

// TestMetTwice: P12.1: a pair that was met is left at once: the way that came first counts, with its captures.
func TestMetTwice(t *testing.T) {
	wantSearches(t, []search{
		{whole(2, either(1, 2), note(0, 3), note(1, 3), ifA(4), match(0)), runesOf("a"), 0, false, found(4, 0, 0, -1)},
		{whole(2, either(2, 1), note(0, 3), note(1, 3), ifA(4), match(0)), runesOf("a"), 0, false, found(4, 0, -1, 0)},
		{whole(2, either(1, 2), note(0, 3), note(1, 3), ifA(4), match(0)), runesOf("b"), 0, false, nothing(4 + 4)},
		{whole(2, either(1, 1), note(0, 2), match(0)), nil, 0, false, found(3, 0, 0, -1)},
		{whole(2, either(1, 1), note(0, 2), fail()), nil, 0, false, nothing(3)},
		// Two runes lead to the same pair.
		{whole(2, either(1, 3), note(0, 2), ifA(5), note(1, 4), ifA(5), ifB(6), match(0)), runesOf("ab"), 0, false, found(5, 0, 0, -1)},
		{whole(2, either(3, 1), note(0, 2), ifA(5), note(1, 4), ifA(5), ifB(6), match(0)), runesOf("ab"), 0, false, found(5, 0, -1, 0)},
		{whole(2, either(1, 3), note(0, 2), ifA(5), note(1, 4), ifA(5), ifB(6), match(0)), runesOf("aa"), 0, true, nothing(6)},
		// Met at another place it is not met here; the same number at another place is another pair.
		{whole(2, ifA(1), either(0, 2), match(3)), runesOf("aaa"), 0, false, found(1+2*3+1, 3, -1, -1)},
		{whole(2, either(1, 2), ifAny(2), ifHolds(api.EndText, 3), match(3)), runesOf("abc"), 0, false, found(4+3+4, 3, -1, -1)},
	})
}

// TestAssertions: P12.1: what holds at each place, at the text's edges too, from a place on as from the beginning.
func TestAssertions(t *testing.T) {
	text := runesOf("a\n b")
	for _, x := range []struct {
		which int
		holds []int // at which places
	}{
		{api.BeginText, []int{0}}, {api.EndText, []int{4}}, {api.BeginLine, []int{0, 2}}, {api.EndLine, []int{1, 4}},
		{api.WordEdge, []int{0, 1, 3, 4}}, {api.NoWordEdge, []int{2}},
	} {
		p := whole(2, note(0, 1), ifHolds(x.which, 2), note(1, 3), match(0))
		wantAll(t, p, text)
		at := 0
		for _, place := range x.holds {
			for ; at < place; at++ {
				wantRun(t, p, text, at, true, nothing(2))
				wantRun(t, p, text, at, false, found(2*(place-at)+4, 0, place, place))
			}
			wantRun(t, p, text, at, true, found(4, 0, at, at))
			wantRun(t, p, text, at, false, found(4, 0, at, at))
			at++
		}
		for ; at <= len(text); at++ {
			wantRun(t, p, text, at, true, nothing(2))
			wantRun(t, p, text, at, false, nothing(2*(len(text)-at+1)))
		}
		wantAll(t, p, nil)
		wantAll(t, p, []int{10})
		wantAll(t, p, []int{-5, 'a', most, 10, '_', least})
	}
	// Several at one place, and on ways that come from elsewhere.
	for _, pattern := range []string{`^$`, `\A\z`, `\b\B`, `^\b|\B$`, `a$\n^b`, `(?:^|a\b|\n)+`, `\Aa|b\z`, `(?:\b|a)*$`, `.\B.`} {
		for _, text := range []string{"", "a", "\n", "a\nb", "ab\n\n-b", "--"} {
			wantAll(t, ofPattern(t, pattern), runesOf(text))
		}
	}
}

// TestClasses: P12.1: which runes a class has: at its edges, between its ranges, and numbers that are no runes.
func TestClasses(t *testing.T) {
	numbers := []int{least, least + 1, -'a', -2, -1, 0, 1, 'a' - 1, 'a', 'b', 'c', 'd', 'e', 'f', 0xD7FF, 0xD800, 0xDFFF, 0xE000, api.MaxRune - 1, api.MaxRune, api.MaxRune + 1, 1<<32 + 'a', most - 1, most}
	for _, class := range [][]api.Range{
		rangesOf('a', 'a'), rangesOf('a', 'c', 'e', 'e'), rangesOf(0, 0), rangesOf(0, 0xD7FF, 0xE000, api.MaxRune), rangesOf(api.MaxRune, api.MaxRune),
		rangesOf(1, 'a', 'c', 'c', 'e', 0xD7FF, 0xE000, 0xE000, api.MaxRune, api.MaxRune), manyRanges(api.MaxRanges, 0), manyRanges(api.MaxRanges, 1),
	} {
		p := whole(2, note(0, 1), ifRune(2, class...), note(1, 3), match(0))
		for _, r := range append(numbers, class[len(class)-1].Lo, class[len(class)-1].Hi+1, class[len(class)/2].Lo, class[len(class)/2].Lo+1) {
			want := nothing(2)
			if inRanges(class, r) {
				want = found(4, 0, 0, 1)
			}
			wantRun(t, p, []int{r}, 0, true, want)
		}
		wantAll(t, p, numbers)
	}
}

// TestSets: P12.1, P12.3: several patterns side by side: the place that comes first counts, and there the pattern that comes first.
func TestSets(t *testing.T) {
	p := joined(t, ofPattern(t, `b(c)`), ofPattern(t, `ab`), ofPattern(t, `(a)(b)`), ofPattern(t, `c*`))
	for _, x := range []struct {
		text string
		at   int
		want api.Found
	}{
		{"abc", 0, found(0, 1, 0, 2, -1, -1, -1, -1)},
		{"abc", 1, found(0, 0, 1, 3, 2, 3, -1, -1)},
		{"abc", 2, found(0, 3, 2, 3, -1, -1, -1, -1)},
		{"abc", 3, found(0, 3, 3, 3, -1, -1, -1, -1)},
		{"bab", 0, found(0, 3, 0, 0, -1, -1, -1, -1)},
	} {
		if f := ran(t, p, runesOf(x.text), x.at, false); !sameFind(f, x.want) {
			t.Errorf("%q at %d: %+v; want %+v", x.text, x.at, f, x.want)
		}
		wantAll(t, p, runesOf(x.text))
	}
	for _, patterns := range [][]string{{`a`, `ab`}, {`ab`, `a`}, {`b`, `ab`}, {`ab`, `b`}, {`a*`, `b`}, {`a*?`, `b`}, {`x`, `y`, `b$`, `^b`, `a`}, {`(a)|(b)`, `()`, `((b))`}, {`\bb`, `\B`, ``}} {
		var l []api.Program
		for _, pattern := range patterns {
			l = append(l, ofPattern(t, pattern))
		}
		for _, text := range []string{"", "a", "b", "ab", "ba", "aab", "-ab-"} {
			wantAll(t, joined(t, l...), runesOf(text))
			wantFirst(t, l, runesOf(text))
		}
	}
	hundred := joined(t, append(many(99, ofPattern(t, `b`)), ofPattern(t, `a`))...)
	wantAll(t, hundred, runesOf("-a"))
	// In vain at 0: 99 OpAlts and two of each; at 1 likewise, but that the last one goes on.
	wantRun(t, hundred, runesOf("-a"), 0, false, found((99+2*100)+(99+2*100)+2, 99, 1, 2))
}

// wantFirst fails, if programs side by side don't find what that one of them finds alone whose find is the first one, the one that is first in the list ahead.
func wantFirst(t *testing.T, l []api.Program, text []int) {
	t.Helper()
	p := joined(t, l...)
	for at := range len(text) + 1 {
		want := api.Found{}
		for place := at; place <= len(text) && !want.Ok; place++ {
			for which := range l {
				if alone := ran(t, l[which], text, place, true); alone.Ok {
					want = found(0, which, append(alone.Caps, many(p.Caps-l[which].Caps, -1)...)...)
					break
				}
			}
		}
		if f := ran(t, p, text, at, false); !sameFind(f, want) {
			t.Errorf("%s: %+v; want %+v", shown(p, text, at, false), f, want)
		}
	}
}

// TestEmptyText: P12.1, W5, W7: the text without runes, and each text at its end.
func TestEmptyText(t *testing.T) {
	for _, text := range [][]int{nil, {}, make([]int, 0, 5)} {
		for _, anchored := range []bool{false, true} {
			wantRun(t, ofPattern(t, ``), text, 0, anchored, found(3, 0, 0, 0))
			wantRun(t, ofPattern(t, `a`), text, 0, anchored, nothing(2))
			wantRun(t, ofPattern(t, `a*`), text, 0, anchored, found(5, 0, 0, 0))
			wantRun(t, ofPattern(t, `\A\z`), text, 0, anchored, found(5, 0, 0, 0))
			wantRun(t, ofPattern(t, `\b`), text, 0, anchored, nothing(2))
		}
		wantRefused(t, "beyond nothing", ofPattern(t, ``), text, 1, api.ErrArg)
	}
	for _, text := range []string{"a", "ab", "ba\n"} {
		l := runesOf(text)
		for _, anchored := range []bool{false, true} {
			wantRun(t, ofPattern(t, ``), l, len(l), anchored, found(3, 0, len(l), len(l)))
			wantRun(t, ofPattern(t, `[^x]`), l, len(l), anchored, nothing(2))
			wantRun(t, ofPattern(t, `\z`), l, len(l), anchored, found(4, 0, len(l), len(l)))
			wantRun(t, ofPattern(t, `\A`), l, len(l), anchored, nothing(2))
		}
	}
}

// TestStart: P12.1: a program that begins elsewhere than with its first instruction.
func TestStart(t *testing.T) {
	p := api.Program{Start: 3, Caps: 2, Insts: []api.Inst{match(4), ifB(0), note(1, 1), note(0, 4), ifA(2)}}
	wantSearches(t, []search{
		{p, runesOf("ab"), 0, false, found(5, 4, 0, 1)},
		{p, runesOf("aab"), 0, false, found(4+5, 4, 1, 2)},
		{p, runesOf("aa"), 0, false, nothing(4 + 4 + 2)},
	})
}

// TestBegins: P12.5: where a search that is not anchored begins what it finds, and what the anchored ones find.
func TestBegins(t *testing.T) {
	p, text := ofPattern(t, `(a+)b`), runesOf("aacaabab")
	want := found(0, 0, 3, 6, 3, 5)
	for at := range 4 {
		if f := ran(t, p, text, at, false); !sameFind(f, want) {
			t.Errorf("from %d: %+v; want %+v", at, f, want)
		}
		if f := ran(t, p, text, at, true); f.Ok != (at == 3) || f.Ok && !sameFind(f, want) {
			t.Errorf("anchored at %d: %+v", at, f)
		}
	}
	for at := 7; at <= 8; at++ {
		if f := ran(t, p, text, at, false); f.Ok {
			t.Errorf("from %d: %+v", at, f)
		}
	}
	for _, pattern := range []string{`(a+)b`, `a*`, `b|c`, `\b[ab]`, `(?:)`, `$`, `c(a*)(b?)$|b$`} {
		wantAll(t, ofPattern(t, pattern), text)
		wantPlaces(t, ofPattern(t, pattern), text)
		wantPlaces(t, joined(t, ofPattern(t, pattern), p), text)
	}
}

// wantPlaces fails, if, of a program that sets the captures 0 and 1 as a compiled one does, a search does not begin what it finds at the least place at which an anchored one finds anything (P12.5).
func wantPlaces(t *testing.T, p api.Program, text []int) {
	t.Helper()
	for at := range len(text) + 1 {
		least := at
		for least <= len(text) && !ran(t, p, text, least, true).Ok {
			least++
		}
		if f := ran(t, p, text, at, false); f.Ok != (least <= len(text)) || f.Ok && (f.Caps[0] != least || f.Caps[1] < least) {
			t.Errorf("P12.5: %s: %+v; an anchored one is found at %d", shown(p, text, at, false), f, least)
		}
	}
}
