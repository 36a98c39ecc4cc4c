package pike_test

import (
	"testing"

	"heron/api"
)

// search is one, and what it is to answer.
type search struct {
	p        api.Program
	text     []int
	at       int
	anchored bool
	want     api.Found
}

// examples are the chapter's, but for the one that is refused.
func examples(t testing.TB) []search {
	return []search{
		{ofPattern(t, `a`), runesOf("ba"), 0, false, found(6, 0, 1, 2)},
		{ofPattern(t, `a`), runesOf("ba"), 0, true, nothing(2)},
		{ofPattern(t, `a*`), runesOf("aa"), 0, false, found(15, 0, 0, 2)},
		{ofPattern(t, `a|ab`), runesOf("ab"), 0, false, found(7, 0, 0, 1)},
		{ofPattern(t, ``), runesOf("ab"), 2, false, found(3, 0, 2, 2)},
		{ofPattern(t, `b`), runesOf("aaa"), 0, false, nothing(8)},
		{whole(2, fail()), runesOf("a"), 0, false, nothing(2)},
		{whole(2, goOn(0)), runesOf("a"), 0, false, nothing(2)},
	}
}

// wantSearches fails, if one of them answers otherwise, or does not do what the chapter says of all.
func wantSearches(t *testing.T, l []search) {
	t.Helper()
	for _, x := range l {
		wantRun(t, x.p, x.text, x.at, x.anchored, x.want)
		wantAll(t, x.p, x.text)
	}
}

// TestExamples: P11.1: what the chapter's examples say.
func TestExamples(t *testing.T) {
	wantSearches(t, examples(t))
	wantRefused(t, "beyond the text", ofPattern(t, `a`), runesOf("a"), 2, api.ErrArg)
}

// TestMatchEndsPlace: P11.1: behind a Match nothing more is visited at its place: neither threads behind it, nor what is left of its own, nor the one that begins there.
func TestMatchEndsPlace(t *testing.T) {
	// a, or a and b: as Match 1 and as Match 2; the one, or the other ahead.
	one := whole(2, either(1, 3), ifA(2), match(1), ifA(4), ifB(5), match(2))
	other := whole(2, either(3, 1), ifA(2), match(1), ifA(4), ifB(5), match(2))
	// Three threads come to 1, of which the second one matches.
	three := whole(2, either(1, 2), ifA(5), either(3, 4), ifA(6), ifA(7), ifB(8), match(6), goOn(5), match(8))
	wantSearches(t, []search{
		{one, runesOf("ab"), 0, false, found(4, 1, -1, -1)},
		{one, runesOf("ab"), 0, true, found(4, 1, -1, -1)},
		{one, runesOf("aab"), 0, false, found(4, 1, -1, -1)},
		{one, runesOf("bab"), 0, false, found(7, 1, -1, -1)},
		{other, runesOf("ab"), 0, false, found(6, 2, -1, -1)},
		{other, runesOf("aa"), 0, false, found(5, 1, -1, -1)},
		{other, runesOf("a"), 0, false, found(5, 1, -1, -1)},
		{three, runesOf("ab"), 0, false, found(8, 8, -1, -1)},
		{three, runesOf("aa"), 0, false, found(7, 6, -1, -1)},
		// What is left of its own thread: by Y, once, and out of several OpAlts and notes.
		{whole(2, either(1, 2), match(7), ifA(1)), runesOf("aa"), 0, false, found(2, 7, -1, -1)},
		{whole(2, either(2, 1), match(7), ifA(1)), runesOf("aa"), 0, false, found(4, 7, -1, -1)},
		{whole(4, either(1, 6), note(2, 2), either(3, 5), note(3, 4), match(9), fail(), ifA(4)), runesOf("a"), 0, false, found(5, 9, -1, -1, 0, 0)},
		// The place is over for what is visited, not for what was put: the thread ahead goes on.
		{whole(2, either(1, 4), ifA(2), ifA(3), match(1), match(2)), runesOf("aa"), 0, false, found(5, 1, -1, -1)},
		{whole(2, either(1, 4), ifA(2), ifA(3), match(1), match(2)), runesOf("ab"), 0, false, found(4, 2, -1, -1)},
		{whole(2, match(0)), runesOf("ab"), 0, false, found(1, 0, -1, -1)},
	})
}

// TestLaterMatch: P11.1: a Match at a later place stands in the place of an earlier one, with its captures and its Arg.
func TestLaterMatch(t *testing.T) {
	// As many as there are, each a Match, with another Arg by turns.
	turns := whole(4, note(0, 1), either(2, 3), ifA(5), note(1, 4), match(1), note(2, 6), either(7, 8), ifA(1), note(3, 9), match(2))
	wantSearches(t, []search{
		{turns, nil, 0, false, found(5, 1, 0, 0, -1, -1)},
		{turns, runesOf("a"), 0, false, found(10, 2, 0, -1, 1, 1)},
		{turns, runesOf("aa"), 0, false, found(14, 1, 0, 2, 1, -1)},
		{turns, runesOf("aaa"), 0, false, found(19, 2, 0, -1, 3, 3)},
		{turns, runesOf("aaab"), 1, true, found(14, 1, 1, 3, 2, -1)},
		{ofPattern(t, `a*`), runesOf("aab"), 0, false, found(15, 0, 0, 2)},
		{ofPattern(t, `a*?`), runesOf("aab"), 0, false, found(4, 0, 0, 0)},
		{ofPattern(t, `(a*?)b|(a*)`), runesOf("aab"), 0, true, ofModel(t, `(a*?)b|(a*)`, "aab")},
	})
	// The better one comes late, or not at all.
	for _, x := range []struct {
		text string
		want []int
	}{{"aaaab", []int{0, 5}}, {"aaaaa", []int{0, 1}}, {"aaaac", []int{0, 1}}, {"caaaab", []int{1, 6}}} {
		f := ran(t, ofPattern(t, `aaaab|a`), runesOf(x.text), 0, false)
		if !sameFind(f, found(0, 0, x.want...)) {
			t.Errorf("%q: %+v; want %v", x.text, f, x.want)
		}
	}
}

// ofModel is what the model answers of a pattern in a text, anchored at its beginning.
func ofModel(t *testing.T, pattern, text string) api.Found {
	return modelRun(ofPattern(t, pattern), runesOf(text), 0, true)
}

// TestNoNewThread: P11.1: a thread begins at each place till something is found, and none from then on; anchored: at the first one alone.
func TestNoNewThread(t *testing.T) {
	wantSearches(t, []search{
		// At 0: 0 1 2 7; at 1: 3, 8 9; at 2: 4; at 3: 5, and nothing is left.
		{ofPattern(t, `aaab|a`), runesOf("aaaaaa"), 0, false, found(9, 0, 0, 1)},
		{ofPattern(t, `aaab|a`), runesOf("aaaaaa"), 3, false, found(9, 0, 3, 4)},
		// At 0: 0 1; at 1: 2, 0 1; at 2: 3, 2, 0 1; at 3: the same; at 4: 4 5.
		{ofPattern(t, `aab`), runesOf("aaab"), 0, false, found(15, 0, 1, 4)},
		{ofPattern(t, `aab`), runesOf("aaab"), 0, true, nothing(4)},
		{ofPattern(t, `aab`), runesOf("aaab"), 1, true, found(6, 0, 1, 4)},
		{ofPattern(t, `b`), runesOf("aab"), 0, false, found(8, 0, 2, 3)},
		{ofPattern(t, `b`), runesOf("aab"), 0, true, nothing(2)},
		{ofPattern(t, `b`), runesOf("aab"), 2, true, found(4, 0, 2, 3)},
		{ofPattern(t, `b`), runesOf("aab"), 3, false, nothing(2)},
		// A thread that begins earlier goes ahead of one that would match at once.
		{ofPattern(t, `abc|b`), runesOf("abc"), 0, false, ofPlain(t, `abc|b`, "abc", 0, 3)},
		{ofPattern(t, `abc|b`), runesOf("abd"), 0, false, ofPlain(t, `abc|b`, "abd", 1, 2)},
	})
	// Anchored and in vain it is over as soon as there are no threads: however long the text is.
	wantRun(t, ofPattern(t, `aab`), many(100000, int('a')), 0, true, nothing(4))
	wantRun(t, ofPattern(t, `aab|a`), many(100000, int('a')), 0, false, ofPlain(t, `aab|a`, "aaaaa", 0, 1))
}

// ofPlain is what is found by those captures, in the model's steps.
func ofPlain(t *testing.T, pattern, text string, caps ...int) api.Found {
	return found(modelRun(ofPattern(t, pattern), runesOf(text), 0, false).Steps, 0, caps...)
}

// TestLoops: P11.1, W1: loops of instructions that take no rune.
func TestLoops(t *testing.T) {
	wantSearches(t, []search{
		{whole(2, either(0, 0)), runesOf("ab"), 0, false, nothing(3)},
		{whole(2, either(0, 0)), runesOf("ab"), 0, true, nothing(1)},
		{whole(2, note(1, 0)), runesOf("ab"), 1, false, nothing(2)},
		{whole(2, goOn(1), goOn(2), goOn(0)), nil, 0, false, nothing(3)},
		{whole(2, goOn(1), either(0, 2), match(5)), runesOf("a"), 0, false, found(3, 5, -1, -1)},
		{whole(2, either(1, 3), note(0, 2), goOn(0), match(5)), runesOf("a"), 0, false, found(4, 5, -1, -1)},
		{whole(2, either(1, 3), note(0, 2), ifHolds(api.BeginText, 0), match(5)), runesOf("a"), 1, false, found(4, 5, -1, -1)},
		{whole(2, ifHolds(api.WordEdge, 0)), runesOf("a"), 0, false, nothing(2)},
		{whole(4, note(2, 1), either(0, 2), note(3, 3), match(0)), nil, 0, true, found(4, 0, -1, -1, 0, 0)},
		{ofPattern(t, `(?:)+`), runesOf("a"), 0, false, found(4, 0, 0, 0)},
		{ofPattern(t, `(|a)+`), runesOf("aa"), 0, false, ofModel(t, `(|a)+`, "aa")},
	})
	for _, x := range []struct {
		pattern, text string
		want          []int
	}{
		{`(|a)+`, "aa", []int{0, 0, 0, 0}}, {`(|a)*`, "aa", []int{0, 2, 1, 2}}, {`(a*)*`, "b", []int{0, 0, -1, -1}}, {`(a*)+`, "b", []int{0, 0, 0, 0}},
		{`(?:(a??)(b??))+c`, "abc", []int{0, 3, 0, 1, 1, 2}}, {`(a|ab)(c|bcd)(d*)`, "abcd", []int{0, 4, 0, 1, 1, 4, 4, 4}}, {`(?:(a)|b)*`, "ab", []int{0, 2, 0, 1}},
	} {
		if f := ran(t, ofPattern(t, x.pattern), runesOf(x.text), 0, false); !sameFind(f, found(0, 0, x.want...)) {
			t.Errorf("%q over %q: %+v; want %v", x.pattern, x.text, f, x.want)
		}
	}
}

// TestMetTwice: P11.1: an instruction that was met at the place is left at once: the way that came first counts, with its captures.
func TestMetTwice(t *testing.T) {
	wantSearches(t, []search{
		{whole(2, either(1, 2), note(0, 3), note(1, 3), ifA(4), match(0)), runesOf("a"), 0, false, found(5, 0, 0, -1)},
		{whole(2, either(2, 1), note(0, 3), note(1, 3), ifA(4), match(0)), runesOf("a"), 0, false, found(5, 0, -1, 0)},
		{whole(2, either(1, 1), note(0, 2), match(0)), nil, 0, false, found(3, 0, 0, -1)},
		{whole(2, either(1, 1), note(0, 2), fail()), nil, 0, false, nothing(3)},
		// Two runes lead to the same instruction: the thread that was put first counts.
		{whole(2, either(1, 3), note(0, 2), ifA(5), note(1, 4), ifA(5), match(0)), runesOf("a"), 0, false, found(6, 0, 0, -1)},
		{whole(2, either(3, 1), note(0, 2), ifA(5), note(1, 4), ifA(5), match(0)), runesOf("a"), 0, false, found(6, 0, -1, 0)},
		{whole(2, either(1, 3), note(0, 2), ifA(5), note(1, 4), ifA(5), ifB(6), match(0)), runesOf("ab"), 0, false, found(5+6+1, 0, 0, -1)},
		// The thread that begins is behind all others: what they met is met for it, too.
		{whole(2, goOn(1), ifA(0)), runesOf("aaa"), 0, false, nothing(8)},
		{whole(2, note(0, 1), ifA(2), either(1, 3), ifB(4), note(1, 5), match(0)), runesOf("aab"), 0, false, found(2+4+4+2, 0, 0, 3)},
		// Met at another place it is not met here.
		{whole(2, ifA(1), either(0, 2), match(3)), runesOf("aaa"), 0, false, found(10, 3, -1, -1)},
	})
}

// TestCaptures: P11.1: captures that are set again; that are another thread's, or another way's; that are never set.
func TestCaptures(t *testing.T) {
	wantSearches(t, []search{
		{whole(4, note(2, 1), ifA(2), note(2, 3), match(0)), runesOf("a"), 0, false, found(4, 0, -1, -1, 1, -1)},
		{whole(4, note(3, 1), note(3, 2), ifA(3), ifA(4), note(3, 5), match(0)), runesOf("aa"), 0, false, found(6+3, 0, -1, -1, -1, 2)},
		// What came to nothing has noted nothing.
		{whole(4, either(1, 3), note(2, 2), fail(), match(0)), nil, 0, false, found(4, 0, -1, -1, -1, -1)},
		{whole(4, note(2, 1), ifA(2), either(3, 5), note(2, 4), fail(), match(0)), runesOf("a"), 0, false, found(2+4, 0, -1, -1, 0, -1)},
		{whole(4, either(1, 4), note(0, 2), note(1, 3), ifB(3), note(2, 5), match(0)), runesOf("a"), 0, false, found(6, 0, -1, -1, 0, -1)},
		// Two threads of one: each has its own.
		{whole(6, note(0, 1), either(2, 4), note(2, 3), ifA(6), note(3, 5), ifA(7), ifB(8), note(4, 8), match(0)), runesOf("ab"), 0, false, found(6+3+1, 0, 0, -1, 0, -1, -1, -1)},
		{whole(6, note(0, 1), either(2, 4), note(2, 3), ifA(6), note(3, 5), ifA(7), ifB(8), note(4, 8), match(0)), runesOf("aa"), 0, false, found(6+3, 0, 0, -1, -1, 0, 1, -1)},
		// A thread that begins has none, whatever was noted ahead.
		{whole(4, note(2, 1), ifA(2), ifB(3), match(0)), runesOf("aab"), 0, false, found(2+3+3+1, 0, -1, -1, 1, -1)},
		{ofPattern(t, `(?:(a)|b)*`), runesOf("aba"), 0, false, ofModel(t, `(?:(a)|b)*`, "aba")},
		{whole(1002, note(1001, 1), ifA(2), note(1000, 3), match(99)), runesOf("ba"), 0, false, found(6, 99, append(many(1000, -1), 2, 1)...)},
	})
	if f := ran(t, ofPattern(t, `(?:(a)|b)*`), runesOf("aba"), 0, false); !sameFind(f, found(0, 0, 0, 3, 2, 3)) {
		t.Errorf("%+v", f)
	}
	// So many captures as the program has, be they noted or not.
	for _, caps := range []int{2, 4, 500, 1002} {
		wantRun(t, whole(caps, match(0)), nil, 0, false, found(1, 0, many(caps, -1)...))
		wantRun(t, whole(caps, fail()), nil, 0, false, nothing(1))
	}
}

// TestAssertions: P11.1: what holds at each place, at the text's edges too, from a place on as from the beginning.
func TestAssertions(t *testing.T) {
	text := runesOf("a\n b")
	for _, x := range []struct {
		which int
		holds []int // at which places
	}{
		{api.BeginText, []int{0}}, {api.EndText, []int{4}}, {api.BeginLine, []int{0, 2}}, {api.EndLine, []int{1, 4}},
		{api.WordEdge, []int{0, 1, 3, 4}}, {api.NoWordEdge, []int{2}},
	} {
		p := whole(2, note(0, 1), ifHolds(x.which, 2), note(1, 3), match(0))
		wantAll(t, p, text)
		at := 0
		for _, place := range x.holds {
			for ; at < place; at++ {
				wantRun(t, p, text, at, true, nothing(2))
				wantRun(t, p, text, at, false, found(2*(place-at)+4, 0, place, place))
			}
			wantRun(t, p, text, at, true, found(4, 0, at, at))
			wantRun(t, p, text, at, false, found(4, 0, at, at))
			at++
		}
		for ; at <= len(text); at++ {
			wantRun(t, p, text, at, true, nothing(2))
			wantRun(t, p, text, at, false, nothing(2*(len(text)-at+1)))
		}
		wantAll(t, p, nil)
		wantAll(t, p, []int{10})
		wantAll(t, p, []int{-5, 'a', most, 10, '_', least})
	}
	// Several at one place, and in threads that come from elsewhere.
	for _, pattern := range []string{`^$`, `\A\z`, `\b\B`, `^\b|\B$`, `a$\n^b`, `(?:^|a\b|\n)+`, `\Aa|b\z`, `(?:\b|a)*$`, `.\B.`} {
		for _, text := range []string{"", "a", "\n", "a\nb", "ab\n\n-b", "--"} {
			wantAll(t, ofPattern(t, pattern), runesOf(text))
		}
	}
}

// TestClasses: P11.1: which runes a class has: at its edges, between its ranges, and numbers that are no runes.
func TestClasses(t *testing.T) {
	numbers := []int{least, least + 1, -'a', -2, -1, 0, 1, 'a' - 1, 'a', 'b', 'c', 'd', 'e', 'f', 0xD7FF, 0xD800, 0xDFFF, 0xE000, api.MaxRune - 1, api.MaxRune, api.MaxRune + 1, 1<<32 + 'a', most - 1, most}
	for _, class := range [][]api.Range{
		rangesOf('a', 'a'), rangesOf('a', 'c', 'e', 'e'), rangesOf(0, 0), rangesOf(0, 0xD7FF, 0xE000, api.MaxRune), rangesOf(api.MaxRune, api.MaxRune),
		rangesOf(1, 'a', 'c', 'c', 'e', 0xD7FF, 0xE000, 0xE000, api.MaxRune, api.MaxRune), manyRanges(api.MaxRanges, 0), manyRanges(api.MaxRanges, 1),
	} {
		p := whole(2, note(0, 1), ifRune(2, class...), note(1, 3), match(0))
		for _, r := range append(numbers, class[len(class)-1].Lo, class[len(class)-1].Hi+1, class[len(class)/2].Lo, class[len(class)/2].Lo+1) {
			want := nothing(2)
			if inRanges(class, r) {
				want = found(4, 0, 0, 1)
			}
			wantRun(t, p, []int{r}, 0, true, want)
		}
		wantAll(t, p, numbers)
	}
}

// TestSets: P11.1, P11.3: several patterns side by side: the place that comes first counts, and there the pattern that comes first.
func TestSets(t *testing.T) {
	p := joined(t, ofPattern(t, `b(c)`), ofPattern(t, `ab`), ofPattern(t, `(a)(b)`), ofPattern(t, `c*`))
	for _, x := range []struct {
		text string
		at   int
		want api.Found
	}{
		{"abc", 0, found(0, 1, 0, 2, -1, -1, -1, -1)},
		{"abc", 1, found(0, 0, 1, 3, 2, 3, -1, -1)},
		{"abc", 2, found(0, 3, 2, 3, -1, -1, -1, -1)},
		{"abc", 3, found(0, 3, 3, 3, -1, -1, -1, -1)},
		{"bab", 0, found(0, 3, 0, 0, -1, -1, -1, -1)},
	} {
		if f := ran(t, p, runesOf(x.text), x.at, false); !sameFind(f, x.want) {
			t.Errorf("%q at %d: %+v; want %+v", x.text, x.at, f, x.want)
		}
		wantAll(t, p, runesOf(x.text))
	}
	for _, patterns := range [][]string{{`a`, `ab`}, {`ab`, `a`}, {`b`, `ab`}, {`ab`, `b`}, {`a*`, `b`}, {`a*?`, `b`}, {`x`, `y`, `b$`, `^b`, `a`}, {`(a)|(b)`, `()`, `((b))`}, {`\bb`, `\B`, ``}} {
		var l []api.Program
		for _, pattern := range patterns {
			l = append(l, ofPattern(t, pattern))
		}
		for _, text := range []string{"", "a", "b", "ab", "ba", "aab", "-ab-"} {
			wantAll(t, joined(t, l...), runesOf(text))
			wantFirst(t, l, runesOf(text))
		}
	}
	hundred := joined(t, append(many(99, ofPattern(t, `b`)), ofPattern(t, `a`))...)
	wantAll(t, hundred, runesOf("-a"))
	if f := ran(t, hundred, runesOf("-a"), 0, false); !sameFind(f, found(0, 99, 1, 2)) {
		t.Errorf("%+v", f)
	}
}

// wantFirst fails, if programs side by side don't find what that one of them finds alone whose find is the first one, the one that is first in the list ahead.
func wantFirst(t *testing.T, l []api.Program, text []int) {
	t.Helper()
	p := joined(t, l...)
	for at := range len(text) + 1 {
		want := api.Found{}
		for place := at; place <= len(text) && !want.Ok; place++ {
			for which := range l {
				if alone := ran(t, l[which], text, place, true); alone.Ok {
					want = found(0, which, append(alone.Caps, many(p.Caps-l[which].Caps, -1)...)...)
					break
				}
			}
		}
		if f := ran(t, p, text, at, false); !sameFind(f, want) {
			t.Errorf("%s: %+v; want %+v", shown(p, text, at, false), f, want)
		}
	}
}

// TestEmptyText: P11.1, W5, W7: the text without runes, and each text at its end.
func TestEmptyText(t *testing.T) {
	for _, text := range [][]int{nil, {}, make([]int, 0, 5)} {
		for _, anchored := range []bool{false, true} {
			wantRun(t, ofPattern(t, ``), text, 0, anchored, found(3, 0, 0, 0))
			wantRun(t, ofPattern(t, `a`), text, 0, anchored, nothing(2))
			wantRun(t, ofPattern(t, `a*`), text, 0, anchored, found(5, 0, 0, 0))
			wantRun(t, ofPattern(t, `\A\z`), text, 0, anchored, found(5, 0, 0, 0))
			wantRun(t, ofPattern(t, `\b`), text, 0, anchored, nothing(2))
		}
		wantRefused(t, "beyond nothing", ofPattern(t, ``), text, 1, api.ErrArg)
	}
	for _, text := range []string{"a", "ab", "ba\n"} {
		l := runesOf(text)
		for _, anchored := range []bool{false, true} {
			wantRun(t, ofPattern(t, ``), l, len(l), anchored, found(3, 0, len(l), len(l)))
			wantRun(t, ofPattern(t, `[^x]`), l, len(l), anchored, nothing(2))
			wantRun(t, ofPattern(t, `\z`), l, len(l), anchored, found(4, 0, len(l), len(l)))
			wantRun(t, ofPattern(t, `\A`), l, len(l), anchored, nothing(2))
		}
	}
}

// TestStart: P11.1: a program that begins elsewhere than with its first instruction.
func TestStart(t *testing.T) {
	p := api.Program{Start: 3, Caps: 2, Insts: []api.Inst{match(4), ifB(0), note(1, 1), note(0, 4), ifA(2)}}
	wantSearches(t, []search{
		{p, runesOf("ab"), 0, false, found(2+4+1, 4, 0, 1)},
		{p, runesOf("aab"), 0, false, found(2+4+4+1, 4, 1, 2)},
		{p, runesOf("aa"), 0, false, nothing(2 + 4 + 4)},
	})
}
