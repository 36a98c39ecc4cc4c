package onepass_test

import (
	"testing"

	"heron/api"
	"heron/onepass"
)

// search is a run, and what it is to answer.
type search struct {
	p    api.Program
	text []int
	at   int
	want api.Found
}

// examples are the chapter's.
func examples(t testing.TB) []search {
	p := ofPattern(t, `a*b`)
	return []search{{p, runesOf("aab"), 0, found(14, 0, 0, 3)}, {p, runesOf("aac"), 0, nothing(12)}}
}

// wantSearches fails, if one of them answers otherwise, or does not do what the chapter says of all.
func wantSearches(t *testing.T, l []search) {
	t.Helper()
	for _, x := range l {
		wantRun(t, x.p, x.text, x.at, x.want)
		wantAll(t, x.p, x.text)
	}
}

// TestExamples: P13.2: what the chapter's examples say.
func TestExamples(t *testing.T) {
	wantSearches(t, examples(t))
	wantRefused(t, "an a goes on or ends the loop", ofPattern(t, `a*a`), runesOf("aa"), 0, api.ErrOnepass)
	wantRefused(t, "comes to itself", whole(2, goOn(0)), nil, 0, api.ErrOnepass)
}

// TestAnchored: P13.2: it runs from the place alone, not from a later one; and what stands ahead of the place is looked at.
func TestAnchored(t *testing.T) {
	b := ofPattern(t, `b`)
	wantSearches(t, []search{
		{b, runesOf("ab"), 0, nothing(2)},
		{b, runesOf("ab"), 1, found(4, 0, 1, 2)},
		{b, runesOf("ab"), 2, nothing(2)},
		{b, runesOf("bbb"), 1, found(4, 0, 1, 2)},
		{ofPattern(t, `^b`), runesOf("ab"), 1, nothing(2)},
		{ofPattern(t, `^b`), runesOf("\nb"), 1, found(5, 0, 1, 2)},
		{ofPattern(t, `\Bb`), runesOf("ab"), 1, found(5, 0, 1, 2)},
		{ofPattern(t, `\A`), runesOf("ab"), 1, nothing(2)},
	})
}

// TestMatchAheadOfRune: P13.2: an OpMatch that stands ahead of an OpRune ends the place: that is not come to, and the thread ends there.
func TestMatchAheadOfRune(t *testing.T) {
	ahead := whole(2, either(1, 2), match(7), ifA(0))
	wantSearches(t, []search{
		{ahead, nil, 0, found(2, 7, -1, -1)},
		{ahead, runesOf("a"), 0, found(2, 7, -1, -1)},
		{ahead, runesOf("aaa"), 1, found(2, 7, -1, -1)},
		{ofPattern(t, `a*?`), runesOf("aaa"), 0, found(4, 0, 0, 0)},
		{ofPattern(t, `a??`), runesOf("a"), 0, found(4, 0, 0, 0)},
		{ofPattern(t, `a+?`), runesOf("aaa"), 0, found(2+3, 0, 0, 1)},
		// Out of several OpAlts and notes, of which much is left.
		{whole(4, either(1, 6), note(2, 2), either(3, 5), note(3, 4), match(9), fail(), ifA(0)), runesOf("a"), 0, found(5, 9, -1, -1, 0, 0)},
		{whole(4, either(1, 6), note(2, 2), either(3, 5), note(3, 4), fail(), match(9), ifA(0)), runesOf("a"), 0, found(6, 9, -1, -1, 0, -1)},
		// Between two runes: the one ahead goes on, the one behind does not.
		{whole(2, either(1, 2), ifA(0), either(3, 4), match(5), ifB(0)), runesOf("aab"), 0, found(4*3, 5, -1, -1)},
		{whole(2, either(1, 2), ifA(0), either(3, 4), match(5), ifB(0)), runesOf("ba"), 0, found(4, 5, -1, -1)},
	})
}

// TestMatchBehindRune: P13.2: an OpMatch that stands behind an OpRune that fits is found, too, and the thread goes on; a later find stands in its place.
func TestMatchBehindRune(t *testing.T) {
	behind := whole(2, either(2, 1), match(7), ifA(0))
	// As many as there are, each a Match, with another Arg by turns.
	turns := whole(4, note(0, 1), either(2, 3), ifA(5), note(1, 4), match(1), note(2, 6), either(7, 8), ifA(1), note(3, 9), match(2))
	wantSearches(t, []search{
		{behind, nil, 0, found(3, 7, -1, -1)},
		{behind, runesOf("a"), 0, found(6, 7, -1, -1)},
		{behind, runesOf("aaa"), 1, found(9, 7, -1, -1)},
		{behind, runesOf("ba"), 0, found(3, 7, -1, -1)},
		{ofPattern(t, `a*`), runesOf("aab"), 0, found(15, 0, 0, 2)},
		{ofPattern(t, `a?`), runesOf("aa"), 0, found(5+2, 0, 0, 1)},
		{turns, nil, 0, found(5, 1, 0, 0, -1, -1)},
		{turns, runesOf("a"), 0, found(10, 2, 0, -1, 1, 1)},
		{turns, runesOf("aa"), 0, found(14, 1, 0, 2, 1, -1)},
		{turns, runesOf("aaa"), 0, found(19, 2, 0, -1, 3, 3)},
		{turns, runesOf("aaab"), 1, found(14, 1, 1, 3, 2, -1)},
		// What was found stays, if what goes on comes to nothing.
		{ofPattern(t, `a(?:bc)?`), runesOf("abd"), 0, found(2+5-1+1, 0, 0, 1)},
		{ofPattern(t, `(a(bbbc)?)?`), runesOf("abbbd"), 0, ofModel(t, `(a(bbbc)?)?`, "abbbd")},
		{whole(2, either(1, 2), ifA(3), match(1), ifB(4), match(2)), runesOf("aa"), 0, found(3+1, 1, -1, -1)},
		{whole(2, either(1, 2), ifA(3), match(1), ifB(4), match(2)), runesOf("ab"), 0, found(3+1+1, 2, -1, -1)},
	})
	if f := ran(t, ofPattern(t, `(a(bbbc)?)?`), runesOf("abbbd"), 0); !sameFind(f, found(0, 0, 0, 1, 0, 1, -1, -1)) {
		t.Errorf("%+v", f)
	}
}

// ofModel is what the model answers of a pattern in a text, from its beginning.
func ofModel(t *testing.T, pattern, text string) api.Found {
	f, _ := modelRun(ofPattern(t, pattern), runesOf(text), 0)
	return f
}

// TestAssertAhead: P13.2: an OpAssert that does not hold leads no further: neither to an OpMatch nor to an OpRune behind it; what stands beside it is come to.
func TestAssertAhead(t *testing.T) {
	// Ahead of both: the OpMatch and the OpRune.
	both := whole(2, ifHolds(api.EndLine, 1), either(2, 3), match(7), ifAny(0))
	bothBehind := whole(2, ifHolds(api.EndLine, 1), either(3, 2), match(7), ifAny(0))
	// Ahead of one of them, the other ahead or behind.
	ofMatch := whole(2, either(1, 3), ifHolds(api.EndLine, 2), match(7), ifAny(0))
	ofRune := whole(2, either(1, 3), ifHolds(api.EndLine, 2), ifAny(0), match(7))
	wantSearches(t, []search{
		{both, runesOf("a"), 0, nothing(1)},
		{both, runesOf("a"), 1, found(3, 7, -1, -1)},
		{both, runesOf("\na"), 0, found(3, 7, -1, -1)},
		{bothBehind, runesOf("a"), 0, nothing(1)},
		{bothBehind, runesOf("\na"), 0, found(4+1, 7, -1, -1)},
		{bothBehind, runesOf("\n\na"), 0, found(4+4+1, 7, -1, -1)},
		{bothBehind, runesOf("\n"), 0, found(4+4, 7, -1, -1)},
		{ofMatch, runesOf("ab"), 0, found(3+3+3, 7, -1, -1)},
		{ofMatch, runesOf("a\nb"), 0, found(3+3, 7, -1, -1)},
		{ofRune, runesOf("ab"), 0, found(3, 7, -1, -1)},
		{ofRune, runesOf("\nb"), 0, found(4+3, 7, -1, -1)},
		{ofPattern(t, `a?$`), runesOf("a"), 0, found(4+3, 0, 0, 1)},
		{ofPattern(t, `a?$`), runesOf("ab"), 0, nothing(4 + 1)},
		{ofPattern(t, `a?$`), runesOf("b"), 0, nothing(4)},
		{ofPattern(t, `\b\B`), runesOf("a"), 0, nothing(3)},
	})
}

// TestAssertions: P13.2: what holds at each place, at the text's edges too.
func TestAssertions(t *testing.T) {
	text := runesOf("a\n b")
	for _, x := range []struct {
		which int
		holds []bool
	}{
		{api.BeginText, []bool{true, false, false, false, false}}, {api.EndText, []bool{false, false, false, false, true}},
		{api.BeginLine, []bool{true, false, true, false, false}}, {api.EndLine, []bool{false, true, false, false, true}},
		{api.WordEdge, []bool{true, true, false, true, true}}, {api.NoWordEdge, []bool{false, false, true, false, false}},
	} {
		p := whole(2, note(0, 1), ifHolds(x.which, 2), note(1, 3), match(0))
		for at, holds := range x.holds {
			want := nothing(2)
			if holds {
				want = found(4, 0, at, at)
			}
			wantRun(t, p, text, at, want)
		}
		// Asked at each place that is come to anew.
		each := whole(2, either(1, 2), ifAny(0), ifHolds(x.which, 3), match(0))
		for _, text := range [][]int{nil, {10}, text, {-5, 'a', most, 10, '_', least}} {
			wantAll(t, p, text)
			wantAll(t, each, text)
		}
	}
	for _, pattern := range []string{`^$`, `\A\z`, `a$\n^b`, `(?:a\b|\n)*`, `\Aa|b\z`, `(?:\ba|\B-)*$`, `.\B.`, `^a\b$|^b`, `(?:a$|^b|\n)+`} {
		for _, text := range []string{"", "a", "\n", "a\nb", "ab\n\n-b", "--"} {
			if is, _ := wantAll(t, ofPattern(t, pattern), runesOf(text)); !is {
				t.Errorf("%q has more than one way", pattern)
			}
		}
	}
}

// TestCaptures: P13.2: captures go with the thread; those that were noted on ways that lead no further, or to an OpRune that does not fit, don't.
func TestCaptures(t *testing.T) {
	wantSearches(t, []search{
		{whole(4, note(2, 1), ifA(2), note(2, 3), match(0)), runesOf("a"), 0, found(4, 0, -1, -1, 1, -1)},
		{whole(4, note(3, 1), note(3, 2), ifA(3), ifA(4), note(3, 5), match(0)), runesOf("aa"), 0, found(3+1+2, 0, -1, -1, -1, 2)},
		// What came to nothing has noted nothing.
		{whole(4, either(1, 3), note(2, 2), fail(), match(0)), nil, 0, found(4, 0, -1, -1, -1, -1)},
		{whole(4, note(2, 1), ifA(2), either(3, 5), note(2, 4), fail(), match(0)), runesOf("a"), 0, found(6, 0, -1, -1, 0, -1)},
		{whole(4, note(2, 1), ifA(2), either(3, 5), note(2, 4), ifB(4), match(0)), runesOf("ab"), 0, found(6+1, 0, -1, -1, 0, -1)},
		{whole(4, either(1, 3), note(2, 2), ifA(5), note(3, 4), ifB(5), match(0)), runesOf("a"), 0, found(6, 0, -1, -1, 0, -1)},
		{whole(4, either(1, 3), note(2, 2), ifA(5), note(3, 4), ifB(5), match(0)), runesOf("b"), 0, found(6, 0, -1, -1, -1, 0)},
		// Two notes of one capture at one place: out of both, and out of the inner one alone.
		{whole(4, either(1, 4), note(3, 2), note(3, 3), fail(), match(0)), runesOf("a"), 0, found(5, 0, -1, -1, -1, -1)},
		{whole(4, note(3, 1), ifA(2), note(3, 3), either(4, 6), note(3, 5), fail(), match(0)), runesOf("a"), 0, found(2+5, 0, -1, -1, -1, 1)},
		// An OpRune that fits ahead of an OpMatch: the thread has its own captures, what is found has its own.
		{whole(4, either(1, 3), note(2, 2), ifA(5), note(3, 4), match(1), ifB(6), match(2)), runesOf("aa"), 0, found(5+1, 1, -1, -1, -1, 0)},
		{whole(4, either(1, 3), note(2, 2), ifA(5), note(3, 4), match(1), ifB(6), match(2)), runesOf("ab"), 0, found(5+1+1, 2, -1, -1, 0, -1)},
		// Out of what was noted behind it.
		{whole(4, note(2, 1), either(2, 3), ifA(6), note(3, 4), note(2, 5), fail(), match(2)), runesOf("a"), 0, found(6+1, 2, -1, -1, 0, -1)},
		{whole(1002, note(1001, 1), ifA(2), note(1000, 3), match(99)), runesOf("ba"), 1, found(4, 99, append(many(1000, -1), 2, 1)...)},
	})
	for _, x := range []struct {
		pattern, text string
		want          []int
	}{
		{`(?:(a)|b)*`, "ab", []int{0, 2, 0, 1}}, {`(?:(a)|b)*`, "aba", []int{0, 3, 2, 3}}, {`(a(b(c)?)?)?`, "abd", []int{0, 2, 0, 2, 1, 2, -1, -1}}, {`(?:(a)|(b)|(c))*d`, "abad", []int{0, 4, 2, 3, 1, 2, -1, -1}},
		{`(a*)(b*)(c*)`, "aac", []int{0, 3, 0, 2, 2, 2, 2, 3}}, {`((a)b)+`, "ababa", []int{0, 4, 2, 4, 2, 3}}, {`(a)(b)?`, "ac", []int{0, 1, 0, 1, -1, -1}}, {`(?:(a)|b)*?c`, "abc", []int{0, 3, 0, 1}},
	} {
		wantAll(t, ofPattern(t, x.pattern), runesOf(x.text))
		if f := ran(t, ofPattern(t, x.pattern), runesOf(x.text), 0); !sameFind(f, found(0, 0, x.want...)) {
			t.Errorf("%q over %q: %+v; want %v", x.pattern, x.text, f, x.want)
		}
	}
	// So many captures as the program has, be they noted or not.
	for _, caps := range []int{2, 4, 500, 1002} {
		wantRun(t, whole(caps, match(0)), nil, 0, found(1, 0, many(caps, -1)...))
		wantRun(t, whole(caps, fail()), nil, 0, nothing(1))
	}
}

// TestSteps: P13.2: each instruction that is come to is a step, those behind an OpRune that fitted, too; it ends where no OpRune fitted.
func TestSteps(t *testing.T) {
	three := whole(2, either(1, 2), ifA(5), either(3, 4), ifB(5), ifC(5), fail())
	wantSearches(t, []search{
		{three, runesOf("a"), 0, nothing(5 + 1)},
		{three, runesOf("b"), 0, nothing(5 + 1)},
		{three, runesOf("c"), 0, nothing(5 + 1)},
		{three, runesOf("d"), 0, nothing(5)},
		{three, nil, 0, nothing(5)},
		{whole(2, ifA(0)), runesOf("aaab"), 0, nothing(4)},
		{whole(2, ifA(0)), runesOf("aaa"), 0, nothing(4)},
		{whole(2, fail()), runesOf("aaa"), 0, nothing(1)},
		{whole(2, match(3)), runesOf("aaa"), 0, found(1, 3, -1, -1)},
		{whole(2, goOn(1), note(0, 2), ifHolds(api.BeginText, 3), fail()), nil, 0, nothing(4)},
		{ofPattern(t, `(?:a|b)*c`), runesOf("abc"), 0, found(6+7+6+2, 0, 0, 3)},
	})
}

// TestClasses: P13.2: which runes a class has: at its edges, between its ranges, and numbers that are no runes.
func TestClasses(t *testing.T) {
	numbers := []int{least, least + 1, -'a', -2, -1, 0, 1, 'a' - 1, 'a', 'b', 'c', 'd', 'e', 'f', 0xD7FF, 0xD800, 0xDFFF, 0xE000, api.MaxRune - 1, api.MaxRune, api.MaxRune + 1, 1<<32 + 'a', most - 1, most}
	for _, class := range [][]api.Range{
		rangesOf('a', 'a'), rangesOf('a', 'c', 'e', 'e'), rangesOf(0, 0), rangesOf(0, 0xD7FF, 0xE000, api.MaxRune), rangesOf(api.MaxRune, api.MaxRune),
		rangesOf(1, 'a', 'c', 'c', 'e', 0xD7FF, 0xE000, 0xE000, api.MaxRune, api.MaxRune), manyRanges(api.MaxRanges, 0, 2), manyRanges(api.MaxRanges, 1, 2),
	} {
		p := whole(2, note(0, 1), ifRune(2, class...), note(1, 3), match(0))
		for _, r := range append(numbers, class[len(class)-1].Lo, class[len(class)-1].Hi+1, class[len(class)/2].Lo, class[len(class)/2].Lo+1) {
			want := nothing(2)
			if inRanges(class, r) {
				want = found(4, 0, 0, 1)
			}
			wantRun(t, p, []int{r}, 0, want)
		}
	}
}

// TestSets: P13.2: which of several patterns side by side is told.
func TestSets(t *testing.T) {
	p := joined(t, ofPattern(t, `a(b)?`), ofPattern(t, `b`), ofPattern(t, `c*`))
	for _, x := range []struct {
		text string
		want api.Found
	}{
		{"ab", found(0, 0, 0, 2, 1, 2)}, {"aa", found(0, 0, 0, 1, -1, -1)}, {"ba", found(0, 1, 0, 1, -1, -1)}, {"cc", found(0, 2, 0, 2, -1, -1)}, {"d", found(0, 2, 0, 0, -1, -1)}, {"", found(0, 2, 0, 0, -1, -1)},
	} {
		wantAll(t, p, runesOf(x.text))
		if f := ran(t, p, runesOf(x.text), 0); !sameFind(f, x.want) {
			t.Errorf("%q: %+v; want %+v", x.text, f, x.want)
		}
	}
}

// TestEmptyText: P13.2, W5, W7: the text without runes, and each text at its end.
func TestEmptyText(t *testing.T) {
	for _, text := range [][]int{nil, {}, make([]int, 0, 5), runesOf("a"), runesOf("ab"), runesOf("ba\n")} {
		end := len(text)
		wantRun(t, ofPattern(t, ``), text, end, found(3, 0, end, end))
		wantRun(t, ofPattern(t, `a`), text, end, nothing(2))
		wantRun(t, ofPattern(t, `[^x]`), text, end, nothing(2))
		wantRun(t, ofPattern(t, `a*`), text, end, found(5, 0, end, end))
		wantRun(t, ofPattern(t, `\z`), text, end, found(4, 0, end, end))
		wantRun(t, ofPattern(t, `$$`), text, end, found(5, 0, end, end))
		if end == 0 {
			wantRun(t, ofPattern(t, `\A\z`), text, 0, found(5, 0, 0, 0))
		} else {
			wantRun(t, ofPattern(t, `\A`), text, end, nothing(2))
		}
		wantRefused(t, "beyond", ofPattern(t, ``), text, end+1, api.ErrArg)
		wantRefused(t, "more than one way", ofPattern(t, `a*a`), text, end, api.ErrOnepass)
	}
}

// TestStart: P13.1, P13.2: a program that begins elsewhere than with its first instruction.
func TestStart(t *testing.T) {
	p := api.Program{Start: 3, Caps: 2, Insts: []api.Inst{match(4), ifB(0), note(1, 1), note(0, 4), ifA(2)}}
	wantSearches(t, []search{
		{p, runesOf("ab"), 0, found(5, 4, 0, 1)},
		{p, runesOf("aab"), 1, found(5, 4, 1, 2)},
		{p, runesOf("aa"), 0, nothing(4)},
	})
}

// TestOften: W2: what is asked again is answered again, whatever was asked between.
func TestOften(t *testing.T) {
	for range 50 {
		for _, x := range examplesOfIs(t) {
			wantIs(t, x.p, x.want)
		}
		for _, x := range examples(t) {
			wantRun(t, x.p, x.text, x.at, x.want)
		}
		if _, errno := onepass.Run(ofPattern(t, `a|ab`), nil, 0); errno != api.ErrOnepass {
			t.Errorf("%d", errno)
		}
	}
}
